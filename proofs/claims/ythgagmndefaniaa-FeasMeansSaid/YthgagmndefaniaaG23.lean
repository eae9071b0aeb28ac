/- How far it is between two nodes, and units: package cost. Conditions: the nodes are there, the instance may be relied on. -/
import Derived.Test.YthgagmndefaniaaG14
import Derived.Test.YthgagmndefaniaaG12
import Derived.Test.YthgagmndefaniaaG03
import Derived.Test.YthgagmndefaniaaG15
import Derived.Test.YthgagmndefaniaaG16
import Derived.Test.YthgagmndefaniaaG07
import Derived.Test.YthgagmndefaniaaG19
namespace Go.Proofs
open Go.RowKit Go.Shelf Go.Canon Go.Feas Go.Metric
attribute [local go_sem] Oper.semAt_some
attribute [local go_sem ↓] Go.wp_at_zero Go.wp_at_succ

theorem Try.isNode_calls (x : Ins) (vn vm : Value) (s : Int) (w : World) (hx : HasIns w vn vm x) :
    Calls Try.prog 59 #[insV x vn vm, .int .i64 s] w fun e w' => e = .returned (.bool (nodeB x s)) ∧ Below w.heap.size w w' := by
  obtain ⟨an, cn, rfl, _⟩ := hx.nodes.dat
  unfold insV nodeB
  clear hx
  generalize x.nodes.length = L
  by_cases h1 : 0 ≤ s
  · by_cases h2 : s < (L : Int)
    · go_enter Try.func59, Try.ntmps59
      go_wp2
      go_ret
      exact ⟨cret_is (by simp; omega), below_box _ _⟩
    · go_enter Try.func59, Try.ntmps59
      go_wp2
      go_ret
      exact ⟨cret_is (by simp; omega), below_box _ _⟩
  · go_enter Try.func59, Try.ntmps59
    go_wp2
    go_ret
    exact ⟨cret_is (by simp; omega), below_box _ _⟩
theorem Try.Unit_calls (x : Ins) (vn vm : Value) (w : World) (hx : HasIns w vn vm x) :
    Calls Try.prog 38 #[insV x vn vm] w fun e w' => e = .returned (.int .i64 (unit x)) ∧ Below w.heap.size w w' := by
  obtain ⟨an, cn, rfl, _⟩ := hx.nodes.dat
  obtain ⟨am, cm, rfl, _⟩ := hx.matrix.dat
  unfold insV unit
  clear hx
  by_cases h1 : x.metric = 6
  · have k : (x.metric == 6) = true := beq_iff_eq.2 h1
    rw [if_pos h1]
    clear h1
    go_enter Try.func38, Try.ntmps38
    go_wp2
    go_ret
    exact ⟨rfl, below_box _ _⟩
  · have k : (x.metric == 6) = false := beq_eq_false_iff_ne.2 h1
    rw [if_neg h1]
    clear h1
    go_enter Try.func38, Try.ntmps38
    go_wp2
    go_ret
    exact ⟨rfl, below_box _ _⟩
set_option maxRecDepth 100000 in
theorem Try.element_calls (x : Ins) (vn vm : Value) (i j : Nat) (w : World) (hx : HasIns w vn vm x) (hg : Fine x) (hi : i < x.nodes.length) (hj : j < x.nodes.length) (h0 : x.metric = 0) :
    Calls Try.prog 60 #[insV x vn vm, .int .i64 (i : Int), .int .i64 (j : Int)] w fun e w' => e = .returned (.tuple #[.int .i64 (way x i j), .int .i64 0]) ∧ Below w.heap.size w w' := by
  obtain ⟨an, cn, rfl, _⟩ := hx.nodes.dat
  obtain ⟨hml, hmv⟩ := hg.matrix h0
  have hlt : i * x.nodes.length + j < x.nodes.length * x.nodes.length := by
    have h1 : (i + 1) * x.nodes.length ≤ x.nodes.length * x.nodes.length := Nat.mul_le_mul_right _ hi
    rw [Nat.add_mul] at h1; omega
  have hW : way x i j = x.matrix.getD (i * x.nodes.length + j) 0 := by unfold way; rw [if_pos h0]
  rw [hW]
  obtain ⟨am, cm, rfl, hM⟩ := hx.matrix.dat
  rcases hM with h | ⟨b, off, rfl, hMb, hM⟩
  · rw [h] at hml; simp only [List.length_nil] at hml; omega
  obtain ⟨v, hv⟩ : ∃ v, x.matrix[i * x.nodes.length + j]? = some v := ⟨_, List.getElem?_eq_getElem (by omega)⟩
  have hc := hM _ _ hv
  have e : x.matrix.getD (i * x.nodes.length + j) 0 = v := by rw [List.getD, hv]; rfl
  rw [e]
  have w1 : wrap64 ((i : Int) * (x.nodes.length : Int)) = ((i * x.nodes.length : Nat) : Int) := by
    have h2 : i * x.nodes.length < 400 * 400 := Nat.lt_of_lt_of_le (show i * x.nodes.length < x.nodes.length * x.nodes.length by omega) (Nat.mul_le_mul hg.hi hg.hi)
    rw [Int.natCast_mul]
    unfold wrap64
    have h3 : (i : Int) * (x.nodes.length : Int) = ((i * x.nodes.length : Nat) : Int) := by rw [Int.natCast_mul]
    rw [h3]; omega
  have hb : i * x.nodes.length + j < 160000 := Nat.lt_of_lt_of_le hlt (Nat.mul_le_mul hg.hi hg.hi)
  rw [← hml] at hlt
  unfold insV
  have HC := Lib.hid hc
  clear hx hmv hM hml e hW hg hv h0
  generalize i * x.nodes.length = P at *
  generalize x.nodes.length = L at *
  generalize x.matrix.length = M at *
  have hc := HC.out
  have hPj : (P : Int) + (j : Int) < (M : Int) := by omega
  go_enter Try.func60, Try.ntmps60
  go_wp2
  go_ret2
  exact ⟨rfl, below_box _ _⟩
set_option maxRecDepth 100000 in
theorem Try.Between_mat (x : Ins) (vn vm : Value) (i j : Nat) (w : World) (hx : HasIns w vn vm x) (hg : Fine x) (hi : i < x.nodes.length) (hj : j < x.nodes.length) (h0 : x.metric = 0) :
    Calls Try.prog 44 #[insV x vn vm, .int .i64 (i : Int), .int .i64 (j : Int)] w fun e w' => e = .returned (.tuple #[.int .i64 (way x i j), .int .i64 0]) ∧ Below w.heap.size w w' := by
  have hN : ∀ (s : Int) (W : World), HasIns W vn vm x → nodeB x s = true → Calls Try.prog 59 #[insV x vn vm, .int .i64 s] W fun e w' => e = .returned (.bool true) ∧ Below W.heap.size W w' := fun s W h hs => hs ▸ Try.isNode_calls x vn vm s W h
  have HN := Lib.hid hN
  have ni : nodeB x (i : Int) = true := by simp [nodeB, hi]
  have nj : nodeB x (j : Int) = true := by simp [nodeB, hj]
  have HX := Lib.hid hx
  have HE := Lib.hid (fun W h => Try.element_calls x vn vm i j W h hg hi hj h0)
  obtain ⟨an, cn, rfl, _⟩ := hx.nodes.dat
  obtain ⟨am, cm, rfl, _⟩ := hx.matrix.dat
  have hm : (x.metric == 0) = true := beq_iff_eq.2 h0
  unfold insV at HN HE ⊢
  clear hN hx hg h0
  generalize way x i j = u at *
  generalize x.nodes.length = L at *
  generalize x.matrix.length = M at *
  have HB0 := Lib.hid (InsBox.new w x (.slice an L cn) (.slice am M cm) 25)
  have HX0 := Lib.hid (HX.out.next (fbelow_box w (.cells #[.string x.name, .int .i64 x.kind, .int .i64 x.metric, .int .i64 x.scale, .int .i64 x.cap, .int .i64 x.fleet, .slice an L cn, .slice am M cm] 25)))
  have HR0 := Lib.hid (fbelow_box w (.cells #[.string x.name, .int .i64 x.kind, .int .i64 x.metric, .int .i64 x.scale, .int .i64 x.cap, .int .i64 x.fleet, .slice an L cn, .slice am M cm] 25))
  go_enter Try.func44, Try.ntmps44
  go_wp2_with (go_at_call 59; (with_reducible refine (HN.out _ _ HX0.out ni).mono ?_); rintro e w1 ⟨rfl, hb1⟩; have B1 := HB0.out.next hb1; have R1 := HR0.out.trans (hb1.mono HR0.out.size); have X1 := Lib.hid (HX0.out.next hb1); have HB1 := Lib.hid B1; obtain ⟨c0, c1, c2, c3, c4, c5, c6, c7⟩ := B1.cells; clear B1 hb1)
  go_wp2_with (go_at_call 59; (with_reducible refine (HN.out _ _ X1.out nj).mono ?_); rintro e w2 ⟨rfl, hb2⟩; have B2 := HB1.out.next hb2; have R2 := R1.trans (hb2.mono R1.size); have X2 := Lib.hid (X1.out.next hb2); clear c0 c1 c2 c3 c4 c5 c6 c7; obtain ⟨c0, c1, c2, c3, c4, c5, c6, c7⟩ := B2.cells; clear B2 hb2)
  go_wp2_with (go_at_call 60; (with_reducible refine (HE.out _ X2.out).mono ?_); rintro e w3 ⟨rfl, hb3⟩)
  go_ret2
  exact ⟨rfl, R2.trans (hb3.mono R2.size)⟩
/-- Two nodes as cells, in whatever comes behind. -/
structure NdS (B : Nat) (vn : Value) (b oi oj : Nat) (di dj : Nd) (w W : World) : Prop where
  vn : W.cell? ⟨B, 6, none⟩ = some vn
  di : NdAt W b oi di
  dj : NdAt W b oj dj
  below : Below w.heap.size w W
  lt : b < w.heap.size ∧ B < w.heap.size
theorem NdS.drew {B : Nat} {vn : Value} {b oi oj : Nat} {di dj : Nd} {w W : World} (h : NdS B vn b oi oj di dj w W) : NdS B vn b oi oj di dj w W.drew := ⟨h.vn, ⟨h.di.x, h.di.y, h.di.demand, h.di.ready, h.di.due, h.di.service, h.di.mate⟩, ⟨h.dj.x, h.dj.y, h.dj.demand, h.dj.ready, h.dj.due, h.dj.service, h.dj.mate⟩, h.below.drew, h.lt⟩
theorem NdS.next {B : Nat} {vn : Value} {b oi oj : Nat} {di dj : Nd} {w W W' : World} (h : NdS B vn b oi oj di dj w W) (hb : Below w.heap.size W W') : NdS B vn b oi oj di dj w W' :=
  ⟨(hb.cell (p := ⟨B, 6, none⟩) h.lt.2).trans h.vn, h.di.below hb h.lt.1, h.dj.below hb h.lt.1, h.below.trans hb, h.lt⟩
theorem NdS.alloc {B : Nat} {vn : Value} {b oi oj : Nat} {di dj : Nd} {w W : World} (h : NdS B vn b oi oj di dj w W) (o : Obj) : NdS B vn b oi oj di dj w (W.alloc o) := h.next ((fbelow_box W o).mono h.below.size)
theorem NdS.set {B : Nat} {vn : Value} {b oi oj : Nat} {di dj : Nd} {w W : World} (h : NdS B vn b oi oj di dj w W) (a : Addr) (u : Value) (ha : w.heap.size ≤ a.block) : NdS B vn b oi oj di dj w (W.setCell a u) := h.next ((Below.refl _ W).setCell ha u)
theorem ndS_S {B : Nat} {vn : Value} {b oi oj : Nat} {di dj : Nd} {w W : World} (h : NdS B vn b oi oj di dj w W) : W.cell? ⟨B, 6, none⟩ = some vn ∧ W.cell? ⟨b, oi, none⟩ = some (.int .i64 di.x) ∧ W.cell? ⟨b, oi + 1, none⟩ = some (.int .i64 di.y) ∧ W.cell? ⟨b, oi + 2, none⟩ = some (.int .i64 di.demand) ∧ W.cell? ⟨b, oi + 3, none⟩ = some (.int .i64 di.ready) ∧ W.cell? ⟨b, oi + 4, none⟩ = some (.int .i64 di.due) ∧ W.cell? ⟨b, oi + 5, none⟩ = some (.int .i64 di.service) ∧ W.cell? ⟨b, oi + 6, none⟩ = some (.int .i64 di.mate) ∧ W.cell? ⟨b, oj, none⟩ = some (.int .i64 dj.x) ∧ W.cell? ⟨b, oj + 1, none⟩ = some (.int .i64 dj.y) ∧ W.cell? ⟨b, oj + 2, none⟩ = some (.int .i64 dj.demand) ∧ W.cell? ⟨b, oj + 3, none⟩ = some (.int .i64 dj.ready) ∧ W.cell? ⟨b, oj + 4, none⟩ = some (.int .i64 dj.due) ∧ W.cell? ⟨b, oj + 5, none⟩ = some (.int .i64 dj.service) ∧ W.cell? ⟨b, oj + 6, none⟩ = some (.int .i64 dj.mate) ∧ NdS B vn b oi oj di dj w W := ⟨h.vn, h.di.x, h.di.y, h.di.demand, h.di.ready, h.di.due, h.di.service, h.di.mate, h.dj.x, h.dj.y, h.dj.demand, h.dj.ready, h.dj.due, h.dj.service, h.dj.mate, h⟩
structure FarS (B : Nat) (m sc : Int) (bf bt : Nat) (ix iy jx jy : Int) (w W : World) : Prop where
  m : W.cell? ⟨B, 2, none⟩ = some (.int .i64 m)
  sc : W.cell? ⟨B, 3, none⟩ = some (.int .i64 sc)
  ix : W.cell? ⟨bf, 0, none⟩ = some (.int .i64 ix)
  iy : W.cell? ⟨bf, 1, none⟩ = some (.int .i64 iy)
  jx : W.cell? ⟨bt, 0, none⟩ = some (.int .i64 jx)
  jy : W.cell? ⟨bt, 1, none⟩ = some (.int .i64 jy)
  below : Below w.heap.size w W
theorem FarS.next {B : Nat} {m sc : Int} {bf bt : Nat} {ix iy jx jy : Int} {w W W' : World} (h : FarS B m sc bf bt ix iy jx jy w W) (hb : Below W.heap.size W W') : FarS B m sc bf bt ix iy jx jy w W' :=
  ⟨(hb.cell (p := ⟨B, 2, none⟩) (cell_lt h.m)).trans h.m, (hb.cell (p := ⟨B, 3, none⟩) (cell_lt h.m)).trans h.sc, (hb.cell (p := ⟨bf, 0, none⟩) (cell_lt h.ix)).trans h.ix, (hb.cell (p := ⟨bf, 1, none⟩) (cell_lt h.ix)).trans h.iy, (hb.cell (p := ⟨bt, 0, none⟩) (cell_lt h.jx)).trans h.jx, (hb.cell (p := ⟨bt, 1, none⟩) (cell_lt h.jx)).trans h.jy, h.below.trans (hb.mono h.below.size)⟩
theorem FarS.drew {B : Nat} {m sc : Int} {bf bt : Nat} {ix iy jx jy : Int} {w W : World} (h : FarS B m sc bf bt ix iy jx jy w W) : FarS B m sc bf bt ix iy jx jy w W.drew := ⟨h.m, h.sc, h.ix, h.iy, h.jx, h.jy, h.below.drew⟩
theorem farS_S {B : Nat} {m sc : Int} {bf bt : Nat} {ix iy jx jy : Int} {w W : World} (h : FarS B m sc bf bt ix iy jx jy w W) : W.cell? ⟨B, 2, none⟩ = some (.int .i64 m) ∧ W.cell? ⟨B, 3, none⟩ = some (.int .i64 sc) ∧ W.cell? ⟨bf, 0, none⟩ = some (.int .i64 ix) ∧ W.cell? ⟨bf, 1, none⟩ = some (.int .i64 iy) ∧ W.cell? ⟨bt, 0, none⟩ = some (.int .i64 jx) ∧ W.cell? ⟨bt, 1, none⟩ = some (.int .i64 jy) ∧ FarS B m sc bf bt ix iy jx jy w W := ⟨h.m, h.sc, h.ix, h.iy, h.jx, h.jy, h⟩
set_option maxRecDepth 100000 in
theorem Try.Between_far (x : Ins) (vn vm : Value) (i j : Nat) (w : World) (hx : HasIns w vn vm x) (hg : Fine x) (hi : i < x.nodes.length) (hj : j < x.nodes.length) (h0 : x.metric ≠ 0) :
    Calls Try.prog 44 #[insV x vn vm, .int .i64 (i : Int), .int .i64 (j : Int)] w fun e w' => e = .returned (.tuple #[.int .i64 (way x i j), .int .i64 0]) ∧ Below w.heap.size w w' := by
  have hN : ∀ (s : Int) (W : World), HasIns W vn vm x → nodeB x s = true → Calls Try.prog 59 #[insV x vn vm, .int .i64 s] W fun e w' => e = .returned (.bool true) ∧ Below W.heap.size W w' := fun s W h hs => hs ▸ Try.isNode_calls x vn vm s W h
  have HN := Lib.hid hN
  have ni : nodeB x (i : Int) = true := by simp [nodeB, hi]
  have nj : nodeB x (j : Int) = true := by simp [nodeB, hj]
  have HX := Lib.hid hx
  have hD : ∀ W, Calls Try.prog 61 #[.int .i64 x.metric, .int .i64 x.scale, .int .i64 ((at' x j).x - (at' x i).x), .int .i64 ((at' x j).y - (at' x i).y)] W fun e w' => e = .returned (.tuple #[.int .i64 (way x i j), .int .i64 0]) ∧ Below W.heap.size W w' := fun W => by
    have h := Try.Dist_calls x.metric x.scale ((at' x j).x - (at' x i).x) ((at' x j).y - (at' x i).y) W
    rw [way_dist hg h0] at h
    exact h
  obtain ⟨b, off, cn, rfl, hlc, hcm, hNo⟩ := hx.all hg.lo
  obtain ⟨am, cm, rfl, _⟩ := hx.matrix.dat
  have hm : (x.metric == 0) = false := beq_eq_false_iff_ne.2 h0
  have hii : (i : Int) < (x.nodes.length : Int) := by omega
  have hjj : (j : Int) < (x.nodes.length : Int) := by omega
  have g1 := hg.xy i
  have g2 := hg.xy j
  have HI := Lib.hid (nodesAt_nd hNo hi)
  have HJ := Lib.hid (nodesAt_nd hNo hj)
  have hbw := hNo.1
  have HD := Lib.hid hD
  unfold insV at HN ⊢
  clear hN hx hg h0 hD hNo
  generalize way x i j = u at *
  generalize at' x i = di at *
  generalize at' x j = dj at *
  generalize x.nodes.length = L at *
  generalize x.matrix.length = M at *
  have HB0 := Lib.hid (InsBox.new w x (.slice (some ⟨b, off, none⟩) L cn) (.slice am M cm) 25)
  have HX0 := Lib.hid (HX.out.next (fbelow_box w (.cells #[.string x.name, .int .i64 x.kind, .int .i64 x.metric, .int .i64 x.scale, .int .i64 x.cap, .int .i64 x.fleet, .slice (some ⟨b, off, none⟩) L cn, .slice am M cm] 25)))
  have HR0 := Lib.hid (fbelow_box w (.cells #[.string x.name, .int .i64 x.kind, .int .i64 x.metric, .int .i64 x.scale, .int .i64 x.cap, .int .i64 x.fleet, .slice (some ⟨b, off, none⟩) L cn, .slice am M cm] 25))
  go_enter Try.func44, Try.ntmps44
  go_wp2_with (go_at_call 59; (with_reducible refine (HN.out _ _ HX0.out ni).mono ?_); rintro e w1 ⟨rfl, hb1⟩; have B1 := HB0.out.next hb1; have R1 := HR0.out.trans (hb1.mono HR0.out.size); have X1 := Lib.hid (HX0.out.next hb1); have HB1 := Lib.hid B1; obtain ⟨c0, c1, c2, c3, c4, c5, c6, c7⟩ := B1.cells; clear B1 hb1)
  go_wp2_with (go_at_call 59; (with_reducible refine (HN.out _ _ X1.out nj).mono ?_); rintro e w2 ⟨rfl, hb2⟩; have B2 := HB1.out.next hb2; have R2 := R1.trans (hb2.mono R1.size); clear c0 c1 c2 c3 c4 c5 c6 c7; obtain ⟨c0, c1, c2, c3, c4, c5, c6, c7⟩ := B2.cells; have HI2 := HI.out.below R2 hbw; have HJ2 := HJ.out.below R2 hbw; obtain ⟨i0, i1, i2, i3, i4, i5, i6⟩ := HI2; obtain ⟨j0, j1, j2, j3, j4, j5, j6⟩ := HJ2; clear B2 hb2)
  clear HN HX HB0 HX0 HR0 X1 HB1 R1 HI HJ
  have hS : NdS w.heap.size (.slice (some ⟨b, off, none⟩) L cn) b (off + i * 7) (off + j * 7) di dj w2 w2 := ⟨c6, ⟨i0, i1, i2, i3, i4, i5, i6⟩, ⟨j0, j1, j2, j3, j4, j5, j6⟩, Below.refl _ _, ⟨Nat.lt_of_lt_of_le hbw R2.size, cell_lt c6⟩⟩
  have HS0 := Lib.hid hS
  have CM := Lib.hid c2
  have CS := Lib.hid c3
  clear c0 c1 c2 c3 c4 c5 c6 c7 i0 i1 i2 i3 i4 i5 i6 j0 j1 j2 j3 j4 j5 j6
  have HR2 := Lib.hid R2
  clear R2
  go_region_held3 (fun W => W.cell? ⟨w.heap.size, 6, none⟩ = some (.slice (some ⟨b, off, none⟩) L cn) ∧ W.cell? ⟨b, off + i * 7, none⟩ = some (.int .i64 di.x) ∧ W.cell? ⟨b, off + i * 7 + 1, none⟩ = some (.int .i64 di.y) ∧ W.cell? ⟨b, off + i * 7 + 2, none⟩ = some (.int .i64 di.demand) ∧ W.cell? ⟨b, off + i * 7 + 3, none⟩ = some (.int .i64 di.ready) ∧ W.cell? ⟨b, off + i * 7 + 4, none⟩ = some (.int .i64 di.due) ∧ W.cell? ⟨b, off + i * 7 + 5, none⟩ = some (.int .i64 di.service) ∧ W.cell? ⟨b, off + i * 7 + 6, none⟩ = some (.int .i64 di.mate) ∧ W.cell? ⟨b, off + j * 7, none⟩ = some (.int .i64 dj.x) ∧ W.cell? ⟨b, off + j * 7 + 1, none⟩ = some (.int .i64 dj.y) ∧ W.cell? ⟨b, off + j * 7 + 2, none⟩ = some (.int .i64 dj.demand) ∧ W.cell? ⟨b, off + j * 7 + 3, none⟩ = some (.int .i64 dj.ready) ∧ W.cell? ⟨b, off + j * 7 + 4, none⟩ = some (.int .i64 dj.due) ∧ W.cell? ⟨b, off + j * 7 + 5, none⟩ = some (.int .i64 dj.service) ∧ W.cell? ⟨b, off + j * 7 + 6, none⟩ = some (.int .i64 dj.mate) ∧ NdS w.heap.size (.slice (some ⟨b, off, none⟩) L cn) b (off + i * 7) (off + j * 7) di dj w2 W)
    ((go_split_ands; (first | exact ndS_S (NdS.drew HS0.out) | exact ndS_S (NdS.drew (NdS.alloc HS0.out _)) | exact ndS_S (NdS.drew (NdS.alloc (NdS.alloc HS0.out _) _)))))
    (fail)
  · rename_i hh
    clear hh hS
    obtain ⟨V, hV⟩ : ∃ V, V = ((w2.alloc (.cells #[Value.int .i64 di.x, .int .i64 di.y, .int .i64 di.demand, .int .i64 di.ready, .int .i64 di.due, .int .i64 di.service, .int .i64 di.mate] 55)).alloc (.cells #[Value.int .i64 dj.x, .int .i64 dj.y, .int .i64 dj.demand, .int .i64 dj.ready, .int .i64 dj.due, .int .i64 dj.service, .int .i64 dj.mate] 55)).drew := ⟨_, rfl⟩
    have hb2 : Below w2.heap.size w2 V := by rw [hV]; exact (below_two w2 _ _).drew
    have F : FarS w.heap.size x.metric x.scale w2.heap.size (w2.heap.size + 1) di.x di.y dj.x dj.y w V := by
      refine ⟨(hb2.cell (p := ⟨w.heap.size, 2, none⟩) (cell_lt CM.out)).trans CM.out, (hb2.cell (p := ⟨w.heap.size, 3, none⟩) (cell_lt CM.out)).trans CS.out, ?_, ?_, ?_, ?_, HR2.out.trans (hb2.mono HR2.out.size)⟩
      · rw [hV]; exact cell_old' w2 _ _ _ 0
      · rw [hV]; exact cell_old' w2 _ _ _ 1
      · rw [hV]; exact cell_new' w2 _ _ _ 0
      · rw [hV]; exact cell_new' w2 _ _ _ 1
    rw [← hV]
    clear hV CM CS HR2 HS0 hb2
    obtain ⟨c2, c3, f0, f1, t0, t1, BT⟩ := F
    go_wp2_with (go_at_call 61; (with_reducible refine (HD.out _).mono ?_); rintro e w3 ⟨rfl, hb3⟩)
    go_ret2
    exact ⟨rfl, BT.trans (hb3.mono BT.size)⟩
  · rename_i hh
    clear hh hS
    obtain ⟨V, hV⟩ : ∃ V, V = ((w2.alloc (.cells #[Value.int .i64 dj.x, .int .i64 dj.y, .int .i64 dj.demand, .int .i64 dj.ready, .int .i64 dj.due, .int .i64 dj.service, .int .i64 dj.mate] 55)).alloc (.cells #[Value.int .i64 di.x, .int .i64 di.y, .int .i64 di.demand, .int .i64 di.ready, .int .i64 di.due, .int .i64 di.service, .int .i64 di.mate] 55)).drew := ⟨_, rfl⟩
    have hb2 : Below w2.heap.size w2 V := by rw [hV]; exact (below_two w2 _ _).drew
    have F : FarS w.heap.size x.metric x.scale (w2.heap.size + 1) w2.heap.size di.x di.y dj.x dj.y w V := by
      refine ⟨(hb2.cell (p := ⟨w.heap.size, 2, none⟩) (cell_lt CM.out)).trans CM.out, (hb2.cell (p := ⟨w.heap.size, 3, none⟩) (cell_lt CM.out)).trans CS.out, ?_, ?_, ?_, ?_, HR2.out.trans (hb2.mono HR2.out.size)⟩
      · rw [hV]; exact cell_new' w2 _ _ _ 0
      · rw [hV]; exact cell_new' w2 _ _ _ 1
      · rw [hV]; exact cell_old' w2 _ _ _ 0
      · rw [hV]; exact cell_old' w2 _ _ _ 1
    rw [← hV]
    clear hV CM CS HR2 HS0 hb2
    obtain ⟨c2, c3, f0, f1, t0, t1, BT⟩ := F
    go_wp2_with (go_at_call 61; (with_reducible refine (HD.out _).mono ?_); rintro e w3 ⟨rfl, hb3⟩)
    go_ret2
    exact ⟨rfl, BT.trans (hb3.mono BT.size)⟩
theorem Try.Between_calls (x : Ins) (vn vm : Value) (i j : Nat) (w : World) (hx : HasIns w vn vm x) (hg : Fine x) (hi : i < x.nodes.length) (hj : j < x.nodes.length) :
    Calls Try.prog 44 #[insV x vn vm, .int .i64 (i : Int), .int .i64 (j : Int)] w fun e w' => e = .returned (.tuple #[.int .i64 (way x i j), .int .i64 0]) ∧ Below w.heap.size w w' := by
  by_cases h0 : x.metric = 0
  · exact Try.Between_mat x vn vm i j w hx hg hi hj h0
  · exact Try.Between_far x vn vm i j w hx hg hi hj h0
end Go.Proofs
/- Package feas: whether each stop is a node, the first customer, and what is late. Conditions: a route of a million stops at most; an instance that may be relied on. -/
namespace Go.Proofs
open Go.RowKit Go.Shelf Go.Canon Go.Feas Go.Plans
attribute [local go_sem] Oper.semAt_some
attribute [local go_sem ↓] Go.wp_at_zero Go.wp_at_succ
set_option maxRecDepth 100000 in
theorem Try.allNodes_calls (x : Ins) (vn vm v : Value) (r : List Int) (w : World) (hx : HasIns w vn vm x) (hl : r.length ≤ 1000000) (hv : HasInts w v r) :
    Calls Try.prog 37 #[insV x vn vm, v] w fun e w' => e = .returned (.bool (nodesB x r)) ∧ Below w.heap.size w w' := by
  obtain ⟨an, cn, rfl, _⟩ := hx.nodes.dat
  obtain ⟨am, cm, rfl, _⟩ := hx.matrix.dat
  have HV := Lib.hid hv
  obtain ⟨ar, cr, rfl⟩ := hv.len
  obtain ⟨n, hn⟩ : ∃ n, r.length = n := ⟨_, rfl⟩
  rw [hn] at hl HV ⊢
  have HN := Lib.hid hn
  obtain ⟨L, hL⟩ : ∃ L, x.nodes.length = L := ⟨_, rfl⟩
  have HL := Lib.hid hL
  rw [hL]
  unfold insV
  clear hx hv hn hL
  have HB0 := Lib.hid (InsBox.new w x (.slice an L cn) (.slice am x.matrix.length cm) 25)
  have HR0 := Lib.hid (fbelow_box w (.cells #[.string x.name, .int .i64 x.kind, .int .i64 x.metric, .int .i64 x.scale, .int .i64 x.cap, .int .i64 x.fleet, .slice an L cn, .slice am x.matrix.length cm] 25))
  go_enter Try.func37, Try.ntmps37
  go_wp2
  go_loopw [9] (fun i wr => ∃ k : Nat, k ≤ n ∧ i = .int .i64 (k : Int) ∧ Hid (nodesB x (r.take k) = true) ∧ InsBox wr w.heap.size x (.slice an L cn) (.slice am x.matrix.length cm) 25 ∧ Below w.heap.size w wr) (fun i _ => n - (intOf i).toNat)
  case atStart => exact ⟨0, Nat.zero_le _, rfl, rfl, HB0.out, HR0.out⟩
  case round =>
    obtain ⟨k, hk, rfl, hT, hB, hR⟩ := hrel
    have HB := Lib.hid hB
    have HR := Lib.hid hR
    obtain ⟨c0, c1, c2, c3, c4, c5, c6, c7⟩ := hB.cells
    clear hB hR
    by_cases hlt : k < n
    · obtain ⟨s, hs⟩ : ∃ s, r[k]? = some s := ⟨_, List.getElem?_eq_getElem (by have := HN.out; omega)⟩
      have hki : (k : Int) < (n : Int) := by omega
      obtain ⟨b, off, cap, e, _, _, hbw, hc⟩ := HV.out.atc hs
      rw [HN.out] at e
      injection e with h1 h2 h3
      subst h1
      subst h3
      clear h2
      have hc := (HR.out.cell (p := ⟨b, off + k, none⟩) hbw).trans hc
      by_cases h1 : s < 0
      · have HF := Lib.hid (nodesB_bad hs (show nodeB x s = false by simp [nodeB]; omega))
        clear hs hT
        go_wp2
        go_ret
        exact ⟨cret_is HF.out.symm, HR.out⟩
      · by_cases h2 : s < (L : Int)
        · have HT : Hid (nodesB x (r.take (k + 1)) = true) := (nodesB_take hs).trans (by rw [hT.out, show nodeB x s = true by have := HL.out; simp [nodeB]; omega]; rfl)
          clear hs hT
          go_wp2
          go_roundw
          case rel => exact ⟨k + 1, by omega, by go_num, HT, HB.out, HR.out⟩
          case measure => simp [intOf]; omega
        · have HF := Lib.hid (nodesB_bad hs (show nodeB x s = false by have := HL.out; simp [nodeB]; omega))
          clear hs hT
          go_wp2
          go_ret
          exact ⟨cret_is HF.out.symm, HR.out⟩
    · obtain rfl : k = n := by omega
      have HF : Hid (nodesB x r = true) := by
        have h := hT.out
        rw [List.take_of_length_le (by have := HN.out; omega)] at h
        exact h
      go_wp2
      go_ret
      exact ⟨cret_is HF.out.symm, HR.out⟩
theorem Try.first_calls (x : Ins) (vn vm : Value) (w : World) (hx : HasIns w vn vm x) :
    Calls Try.prog 49 #[insV x vn vm] w fun e w' => e = .returned (.int .i64 ((least x : Nat) : Int)) ∧ Below w.heap.size w w' := by
  obtain ⟨an, cn, rfl, _⟩ := hx.nodes.dat
  obtain ⟨am, cm, rfl, _⟩ := hx.matrix.dat
  unfold insV least
  clear hx
  by_cases h1 : x.kind = 1
  · have k : (x.kind == 1) = true := beq_iff_eq.2 h1
    rw [if_pos h1]
    clear h1
    go_enter Try.func49, Try.ntmps49
    go_wp2
    go_ret
    exact ⟨rfl, fbelow_box _ _⟩
  · have k : (x.kind == 1) = false := beq_eq_false_iff_ne.2 h1
    rw [if_neg h1]
    clear h1
    go_enter Try.func49, Try.ntmps49
    go_wp2
    go_ret
    exact ⟨rfl, fbelow_box _ _⟩
/-- An instance in a box, a node's cells, what came in: in whatever comes behind. -/
structure LtS (B : Nat) (x : Ins) (vn vm : Value) (b off : Nat) (d : Nd) (w W : World) : Prop where
  box : InsBox W B x vn vm 25
  nd : NdAt w b off d
  lt : b < w.heap.size
  below : Below w.heap.size w W
theorem LtS.next {B : Nat} {x : Ins} {vn vm : Value} {b off : Nat} {d : Nd} {w W W' : World} (h : LtS B x vn vm b off d w W) (hb : Below W.heap.size W W') : LtS B x vn vm b off d w W' := ⟨h.box.next hb, h.nd, h.lt, h.below.trans (hb.mono h.below.size)⟩
theorem LtS.drew {B : Nat} {x : Ins} {vn vm : Value} {b off : Nat} {d : Nd} {w W : World} (h : LtS B x vn vm b off d w W) : LtS B x vn vm b off d w W.drew := ⟨h.box, h.nd, h.lt, h.below.drew⟩
theorem ltS_S {B : Nat} {x : Ins} {vn vm : Value} {b off : Nat} {d : Nd} {w W : World} (h : LtS B x vn vm b off d w W) : W.cell? ⟨B, 0, none⟩ = some (.string x.name) ∧ W.cell? ⟨B, 1, none⟩ = some (.int .i64 x.kind) ∧ W.cell? ⟨B, 2, none⟩ = some (.int .i64 x.metric) ∧ W.cell? ⟨B, 3, none⟩ = some (.int .i64 x.scale) ∧ W.cell? ⟨B, 4, none⟩ = some (.int .i64 x.cap) ∧ W.cell? ⟨B, 5, none⟩ = some (.int .i64 x.fleet) ∧ W.cell? ⟨B, 6, none⟩ = some vn ∧ W.cell? ⟨B, 7, none⟩ = some vm ∧ W.cell? ⟨b, off + 4, none⟩ = some (.int .i64 d.due) ∧ LtS B x vn vm b off d w W := by
  obtain ⟨c0, c1, c2, c3, c4, c5, c6, c7⟩ := h.box.cells
  exact ⟨c0, c1, c2, c3, c4, c5, c6, c7, (h.nd.below h.below h.lt).due, h⟩
set_option maxRecDepth 100000 in
theorem Try.late_calls (x : Ins) (vn vm : Value) (m : Nat) (t : Int) (w : World) (hx : HasIns w vn vm x) (hg : Fine x) (hm : m < x.nodes.length) :
    Calls Try.prog 41 #[insV x vn vm, .int .i64 (m : Int), .int .i64 t] w fun e w' => e = .returned (.bool (decide (unit x * (at' x m).due < t))) ∧ Below w.heap.size w w' := by
  have HX := Lib.hid hx
  have HU := Lib.hid fun W h => Try.Unit_calls x vn vm W h
  obtain ⟨b, off, cn, rfl, hlc, hcm, hNo⟩ := hx.all hg.lo
  obtain ⟨am, cm, rfl, _⟩ := hx.matrix.dat
  have HND := Lib.hid (nodesAt_nd hNo (i := m) hm)
  have hbw := hNo.1
  obtain ⟨ud, w0, hud, b0⟩ := wrap_unit (x := x) (hg.due m)
  have HW : Hid (IntKind.i64.wrap (unit x * (at' x m).due) = ud) := by rw [hud]; exact wrap_i64 (by omega) (by omega)
  rw [hud]
  have hub := unit_bounds x
  clear w0
  obtain ⟨L, hL⟩ : ∃ L, x.nodes.length = L := ⟨_, rfl⟩
  rw [hL] at hm HX HU ⊢
  unfold insV at HU ⊢
  clear hx hg hNo hL hud
  generalize unit x = u at *
  generalize at' x m = d at *
  have hmL : (m : Int) < (L : Int) := by omega
  have HS0 : Hid (LtS w.heap.size x (.slice (some ⟨b, off, none⟩) L cn) (.slice am x.matrix.length cm) b (off + m * 7) d w (w.alloc (.cells #[.string x.name, .int .i64 x.kind, .int .i64 x.metric, .int .i64 x.scale, .int .i64 x.cap, .int .i64 x.fleet, .slice (some ⟨b, off, none⟩) L cn, .slice am x.matrix.length cm] 25))) := ⟨InsBox.new w x _ _ 25, HND.out, hbw, fbelow_box w _⟩
  go_enter Try.func41, Try.ntmps41
  go_wp2_with (fail)
  go_region_held3 (fun W => W.cell? ⟨w.heap.size, 0, none⟩ = some (.string x.name) ∧ W.cell? ⟨w.heap.size, 1, none⟩ = some (.int .i64 x.kind) ∧ W.cell? ⟨w.heap.size, 2, none⟩ = some (.int .i64 x.metric) ∧ W.cell? ⟨w.heap.size, 3, none⟩ = some (.int .i64 x.scale) ∧ W.cell? ⟨w.heap.size, 4, none⟩ = some (.int .i64 x.cap) ∧ W.cell? ⟨w.heap.size, 5, none⟩ = some (.int .i64 x.fleet) ∧ W.cell? ⟨w.heap.size, 6, none⟩ = some (.slice (some ⟨b, off, none⟩) L cn) ∧ W.cell? ⟨w.heap.size, 7, none⟩ = some (.slice am x.matrix.length cm) ∧ W.cell? ⟨b, off + m * 7 + 4, none⟩ = some (.int .i64 d.due) ∧ LtS w.heap.size x (.slice (some ⟨b, off, none⟩) L cn) (.slice am x.matrix.length cm) b (off + m * 7) d w W)
    ((go_split_ands; (first | exact ltS_S HS0.out.drew | exact ltS_S (by assumption) | exact ltS_S (LtS.drew (by assumption)) | exact ltS_S (LtS.next (by assumption) (by assumption)))))
    ((go_at_call 38; (with_reducible refine (HU.out _ (by go_split_ands; first | exact HX.out.next (LtS.below (by assumption)) | exact HX.out.next (LtS.drew (by assumption)).below)).mono ?_); rintro e w3 ⟨rfl, hb3⟩))
  have T := (show _ ∧ _ ∧ _ ∧ _ ∧ _ ∧ _ ∧ _ ∧ _ ∧ _ ∧ LtS w.heap.size x (.slice (some ⟨b, off, none⟩) L cn) (.slice am x.matrix.length cm) b (off + m * 7) d w w3 by assumption).2.2.2.2.2.2.2.2.2
  have HT := Lib.hid T
  rename_i hh
  clear hh T
  go_wp2
  go_ret
  exact ⟨by have e1 := HW.out; simp only [e1]; rfl, HT.out.below⟩
end Go.Proofs
/- The iterators of layer 9: a route's own stops (slices.All), the routes, each of which is an iterator; no bound. -/
namespace Go.Proofs
open Go.RowKit Go.Plans
attribute [local go_sem] Oper.semAt_some

theorem HasInts.still {W W' : World} {v : Value} {l : List Int} (h : HasInts W v l) (hb : Still W.heap.size W W') : HasInts W' v l := by
  rcases h with h | ⟨b, off, cap, h1, h2, h3, h4⟩
  · exact .inl h
  · exact .inr ⟨b, off, cap, h1, h2, h3, Nat.lt_of_lt_of_le h4.1 hb.size, fun i x hi => hb.cell h4.1 (h4.2 i x hi)⟩
theorem HasInts.at {W : World} {v : Value} {l : List Int} {i : Nat} {x : Int} (h : HasInts W v l) (hi : l[i]? = some x) : ∃ b off cap, v = .slice (some ⟨b, off, none⟩) l.length cap ∧ b < W.heap.size ∧ W.cell? ⟨b, off + i, none⟩ = some (.int .i64 x) := by
  rcases h with ⟨rfl, _⟩ | ⟨b, off, cap, h1, _, _, h4⟩
  · simp at hi
  · exact ⟨b, off, cap, h1, h4.1, h4.2 i x hi⟩
theorem HasRts.at {W : World} {v : Value} {rr : Rts} {i : Nat} {l : List Int} (h : HasRts W v rr) (hi : rr[i]? = some l) : ∃ b off cap u, v = .slice (some ⟨b, off, none⟩) rr.length cap ∧ b < W.heap.size ∧ W.cell? ⟨b, off + i, none⟩ = some u ∧ HasInts W u l := by
  rcases h with ⟨rfl, _⟩ | ⟨b, off, cap, h1, _, _, h4⟩
  · simp at hi
  · obtain ⟨u, h5, h6⟩ := h4.2 i l hi
    exact ⟨b, off, cap, u, h1, h4.1, h5, h6⟩
theorem HasRts.maxLen {W : World} {v : Value} {rr : Rts} (h : HasRts W v rr) : rr.length ≤ Go.maxLen := by
  rcases h with ⟨rfl, _⟩ | ⟨_, _, _, _, h2, h3, _⟩
  · simp
  · omega
theorem HasInts.maxLen {W : World} {v : Value} {l : List Int} (h : HasInts W v l) : l.length ≤ Go.maxLen := by
  rcases h with ⟨rfl, _⟩ | ⟨_, _, _, _, h2, h3, _⟩
  · simp
  · omega

/-- What slices.All yields. -/
def AllX (l : List Int) (k : Nat) (x : Array Value) (_ : World) : Prop := ∃ a, l[k]? = some a ∧ x = #[.int .i64 (k : Int), .int .i64 a]

set_option maxRecDepth 100000 in
set_option maxHeartbeats 1000000 in
theorem Try.All1_seq {T : Nat → TypeId → Bool} (w0 : World) (b : Nat) (v : Value) (l : List Int) (w : World) (hv : HasInts w0 v l) (hS : Still w0.heap.size w0 w) (hbox : Boxed w b 23 v) (hT : ∀ b t, b < w0.heap.size → T b t = true) :
    SeqX T Try.prog 105 #[.pointer (some ⟨b, 0, none⟩)] l.length (AllX l) w := by
  intro ll J Jx W hW hJ hJx hY h0
  have hbW : Boxed W b 23 v := (hW.block b hbox.lt).trans hbox
  have hSW : Still w0.heap.size w0 W := hS.trans ((Still.of_below hW).trans (Still.refl _ _) |> fun h => ⟨h.size, fun k c t z hk hc => h.cells k c t z (Nat.lt_of_lt_of_le hk hS.size) hc⟩)
  have hcW := hbW.cell
  obtain ⟨ao, cap, rfl⟩ := hv.len
  have hmx := hv.maxLen
  unfold Go.maxLen at hmx
  have HV := Lib.hid hv
  obtain ⟨n, hn⟩ : ∃ n, l.length = n := ⟨_, rfl⟩
  rw [hn] at HV hmx hcW hbW ⊢
  have HN := Lib.hid hn
  have HY := Lib.hid hY
  have HT := Lib.hid hT
  clear hv hn hY hT hbox hS hW hJ hJx
  refine (callsIn_wide (n := 0)).1 (callsIn_of_wp Try.func105 rfl trivial ?_ rfl)
  simp only [Try.ntmps105, List.size_toArray, List.length_cons, List.length_nil, Nat.reduceAdd, Nat.reduceSub, Array.replicate_succ, Array.replicate_zero, List.push_toArray, List.append_toArray, List.nil_append, List.cons_append]
  gi_wp2
  gi_loopw [7] (fun i wr => ∃ k : Nat, k ≤ n ∧ i = .int .i64 (k : Int) ∧ W.heap.size ≤ wr.heap.size ∧ Still w0.heap.size w0 wr ∧ J k wr) (fun i _ => n - (intOf i).toNat)
  case atStart => exact ⟨0, Nat.zero_le _, rfl, Nat.le_refl _, hSW, h0⟩
  case round =>
    obtain ⟨k, hk, rfl, hsz, hS, hj⟩ := hrel
    by_cases hlt : k < n
    · obtain ⟨x, hx⟩ : ∃ x, l[k]? = some x := ⟨_, List.getElem?_eq_getElem (by have := HN.out; omega)⟩
      obtain ⟨bb, off, cap', hv, hbw, hc⟩ := HV.out.at hx
      injection hv with h1 h2 h3
      subst h1
      have hc1 := hS.cell hbw hc
      obtain ⟨fn, tmps, assign, body, hy, hR⟩ := HY.out k _ wr (by have := HN.out; omega) hsz ⟨x, hx, rfl⟩ hj
      have hki : (k : Int) < (n : Int) := by omega
      have HS := Lib.hid hS
      have HZ := Lib.hid hsz
      clear h2 h3 hc hx hS hj hSW hsz hcW hbW h0
      gi_wp2
      refine ⟨rfl, hR.mono ?_⟩
      rintro e W3 ⟨hrf, (⟨rfl, hJ3⟩ | ⟨rfl, hJx3⟩)⟩
      · have HS3 := HS.out.rf hrf HT.out
        have hz3 : W.heap.size ≤ W3.heap.size := Nat.le_trans HZ.out hrf.size
        clear hrf
        gi_wp2
        go_roundw
        case rel => exact ⟨k + 1, by omega, by go_num, hz3, HS3, hJ3⟩
        case measure => simp [intOf]; omega
      · gi_wp2
        refine bodyPost_ret (results_none rfl _ _ _) rfl ?_
        exact ⟨⟨_, rfl⟩, .inr hJx3⟩
    · obtain rfl : k = n := by omega
      gi_wp2
      go_end0
      exact ⟨⟨_, rfl⟩, .inl hj⟩
#print axioms Try.All1_seq

theorem Try.All_calls (ao : Option Addr) (n cap : Nat) (w : World) :
    Calls Try.prog 100 #[.slice ao n cap] w fun e w' => e = .returned (.func (.func 105) #[] #[.pointer (some ⟨w.heap.size, 0, none⟩)]) ∧ w' = w.alloc (.cells #[.slice ao n cap] 23) := by
  go_enter Try.func100, Try.ntmps100
  go_wp2
  go_ret
  exact ⟨rfl, rfl⟩
theorem Try.routes_calls (v : Value) (w : World) :
    Calls Try.prog 82 #[planV v] w fun e w' => e = .returned (.func (.func 99) #[] #[.pointer (some ⟨w.heap.size, 0, none⟩)]) ∧ w' = w.alloc (.cells #[v] 28) := by
  unfold planV
  go_enter Try.func82, Try.ntmps82
  go_wp2
  go_ret
  exact ⟨rfl, rfl⟩
theorem Try.visits_calls (v : Value) (w : World) :
    Calls Try.prog 70 #[planV v] w fun e w' => e = .returned (.func (.func 81) #[] #[.pointer (some ⟨w.heap.size, 0, none⟩)]) ∧ w' = w.alloc (.cells #[v] 28) := by
  unfold planV
  go_enter Try.func70, Try.ntmps70
  go_wp2
  go_ret
  exact ⟨rfl, rfl⟩

/-- What routes yields: the number of a route, and an iterator of its own stops. -/
def RouteX (w0 : World) (M : Nat) (rr : Rts) (k : Nat) (x : Array Value) (W : World) : Prop :=
  ∃ (l : List Int) (b : Nat) (v : Value), rr[k]? = some l ∧ x = #[.int .i64 (k : Int), .func (.func 105) #[] #[.pointer (some ⟨b, 0, none⟩)]] ∧ M ≤ b ∧ Boxed W b 23 v ∧ HasInts w0 v l ∧ Still w0.heap.size w0 W

set_option maxRecDepth 100000 in
set_option maxHeartbeats 1000000 in
theorem Try.routes1_seq {T : Nat → TypeId → Bool} (w0 : World) (b : Nat) (v : Value) (rr : Rts) (w : World) (hv : HasRts w0 v rr) (hS : Still w0.heap.size w0 w) (hbox : Boxed w b 28 v) (hT : ∀ b t, b < w0.heap.size → T b t = true) :
    SeqX T Try.prog 99 #[.pointer (some ⟨b, 0, none⟩)] rr.length (RouteX w0 w.heap.size rr) w := by
  intro ll J Jx W hW hJ hJx hY h0
  have hbW : Boxed W b 28 v := (hW.block b hbox.lt).trans hbox
  have hSW : Still w0.heap.size w0 W := hS.trans ((Still.of_below hW).trans (Still.refl _ _) |> fun h => ⟨h.size, fun k c t z hk hc => h.cells k c t z (Nat.lt_of_lt_of_le hk hS.size) hc⟩)
  have hcW := hbW.cell
  obtain ⟨ao, cap, rfl⟩ := hv.len
  have hmx := hv.maxLen
  unfold Go.maxLen at hmx
  have HV := Lib.hid hv
  obtain ⟨n, hn⟩ : ∃ n, rr.length = n := ⟨_, rfl⟩
  rw [hn] at HV hmx hcW hbW ⊢
  have HN := Lib.hid hn
  have HY := Lib.hid hY
  have HT := Lib.hid hT
  have HJ := Lib.hid hJ
  have HWz := Lib.hid hW.size
  clear hv hn hY hT hbox hS hW hJ hJx
  refine (callsIn_wide (n := 0)).1 (callsIn_of_wp Try.func99 rfl trivial ?_ rfl)
  simp only [Try.ntmps99, List.size_toArray, List.length_cons, List.length_nil, Nat.reduceAdd, Nat.reduceSub, Array.replicate_succ, Array.replicate_zero, List.push_toArray, List.append_toArray, List.nil_append, List.cons_append]
  gi_wp2
  gi_loopw [8] (fun i wr => ∃ k : Nat, k ≤ n ∧ i = .int .i64 (k : Int) ∧ W.heap.size ≤ wr.heap.size ∧ Still w0.heap.size w0 wr ∧ J k wr) (fun i _ => n - (intOf i).toNat)
  case atStart => exact ⟨0, Nat.zero_le _, rfl, Nat.le_refl _, hSW, h0⟩
  case round =>
    obtain ⟨k, hk, rfl, hsz, hS, hj⟩ := hrel
    by_cases hlt : k < n
    · obtain ⟨x, hx⟩ : ∃ x, rr[k]? = some x := ⟨_, List.getElem?_eq_getElem (by have := HN.out; omega)⟩
      obtain ⟨bb, off, cap', u, hv, hbw, hc, hu⟩ := HV.out.at hx
      injection hv with h1 h2 h3
      subst h1
      obtain ⟨ao2, cap2, rfl⟩ := hu.len
      obtain ⟨u, hue⟩ : ∃ u, u = Value.slice ao2 x.length cap2 := ⟨_, rfl⟩
      rw [← hue] at hc hu
      have HA := Lib.hid (Try.All_calls ao2 x.length cap2 wr)
      rw [← hue] at HA
      have hc1 := hS.cell hbw hc
      clear hue
      obtain ⟨fn, tmps, assign, body, hy, hR⟩ := HY.out k _ (wr.alloc (.cells #[u] 23)) (by have := HN.out; omega) (by simp; omega) ⟨x, wr.heap.size, u, hx, rfl, Nat.le_trans HWz.out hsz, Boxed.new _ _ _, hu, hS.alloc _⟩ (HJ.out.alloc _ hj)
      have hki : (k : Int) < (n : Int) := by omega
      have HS := Lib.hid (hS.alloc (.cells #[u] 23))
      have HZ : Hid (W.heap.size ≤ (wr.alloc (.cells #[u] 23)).heap.size) := by unfold Hid; simp; omega
      clear h2 h3 hc hx hS hj hSW hsz hcW hbW h0
      gi_wp2_with (refine ⟨trivial, rfl, ?_⟩; gi_at_call 100; refine (callsIn_wide.2 HA.out).mono ?_; rintro e w' ⟨rfl, rfl⟩)
      refine ⟨rfl, hR.mono ?_⟩
      rintro e W3 ⟨hrf, (⟨rfl, hJ3⟩ | ⟨rfl, hJx3⟩)⟩
      · have HS3 := HS.out.rf hrf HT.out
        have hz3 : W.heap.size ≤ W3.heap.size := Nat.le_trans HZ.out hrf.size
        clear hrf
        gi_wp2
        go_roundw
        case rel => exact ⟨k + 1, by omega, by go_num, hz3, HS3, hJ3⟩
        case measure => simp [intOf]; omega
      · gi_wp2
        refine bodyPost_ret (results_none rfl _ _ _) rfl ?_
        exact ⟨⟨_, rfl⟩, .inr hJx3⟩
    · obtain rfl : k = n := by omega
      gi_wp2
      go_end0
      exact ⟨⟨_, rfl⟩, .inl hj⟩
#print axioms Try.routes1_seq
end Go.Proofs
