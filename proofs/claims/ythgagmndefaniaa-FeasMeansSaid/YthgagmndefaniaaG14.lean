/- How far it is between two nodes, and units: the document's own answers of layer 10. Conditions: the nodes are there, the instance may be relied on. -/
import Derived.Test.YthgagmndefaniaaG07
import Derived.Test.YthgagmndefaniaaG03
import Derived.Test.YthgagmndefaniaaG13
import Derived.Deep.DrawnRows
import Derived.Deep.RegionHeld3
import Derived.Test.YthgagmndefaniaaG05
namespace Go.Proofs
open Go.RowKit Go.Shelf Go.Canon Go.Feas Go.Metric
attribute [local go_sem] Oper.semAt_some
attribute [local go_sem ↓] Go.wp_at_zero Go.wp_at_succ

theorem Try.rnode_calls (x : Ins) (vn vm : Value) (s : Int) (w : World) (hx : HasIns w vn vm x) :
    Calls Try.prog 72 #[insV x vn vm, .int .i64 s] w fun e w' => e = .returned (.bool (nodeB x s)) ∧ Below w.heap.size w w' := by
  obtain ⟨an, cn, rfl, _⟩ := hx.nodes.dat
  unfold insV nodeB
  clear hx
  generalize x.nodes.length = L
  by_cases h1 : 0 ≤ s
  · by_cases h2 : s < (L : Int)
    · go_enter Try.func72, Try.ntmps72
      go_wp2
      go_ret
      exact ⟨cret_is (by simp; omega), below_box _ _⟩
    · go_enter Try.func72, Try.ntmps72
      go_wp2
      go_ret
      exact ⟨cret_is (by simp; omega), below_box _ _⟩
  · go_enter Try.func72, Try.ntmps72
    go_wp2
    go_ret
    exact ⟨cret_is (by simp; omega), below_box _ _⟩
theorem Try.RUnit_calls (x : Ins) (vn vm : Value) (w : World) (hx : HasIns w vn vm x) :
    Calls Try.prog 57 #[insV x vn vm] w fun e w' => e = .returned (.int .i64 (unit x)) ∧ Below w.heap.size w w' := by
  obtain ⟨an, cn, rfl, _⟩ := hx.nodes.dat
  obtain ⟨am, cm, rfl, _⟩ := hx.matrix.dat
  unfold insV unit
  clear hx
  by_cases h1 : x.metric = 6
  · have k : (x.metric == 6) = true := beq_iff_eq.2 h1
    rw [if_pos h1]
    clear h1
    go_enter Try.func57, Try.ntmps57
    go_wp2
    go_ret
    exact ⟨rfl, below_box _ _⟩
  · have k : (x.metric == 6) = false := beq_eq_false_iff_ne.2 h1
    rw [if_neg h1]
    clear h1
    go_enter Try.func57, Try.ntmps57
    go_wp2
    go_ret
    exact ⟨rfl, below_box _ _⟩
set_option maxRecDepth 100000 in
theorem Try.RBetween_mat (x : Ins) (vn vm : Value) (i j : Nat) (w : World) (hx : HasIns w vn vm x) (hg : Fine x) (hi : i < x.nodes.length) (hj : j < x.nodes.length) (h0 : x.metric = 0) :
    Calls Try.prog 58 #[insV x vn vm, .int .i64 (i : Int), .int .i64 (j : Int)] w fun e w' => e = .returned (.tuple #[.int .i64 (way x i j), .int .i64 0]) ∧ Below w.heap.size w w' := by
  have hN : ∀ (s : Int) (W : World), HasIns W vn vm x → nodeB x s = true → Calls Try.prog 72 #[insV x vn vm, .int .i64 s] W fun e w' => e = .returned (.bool true) ∧ Below W.heap.size W w' := fun s W h hs => hs ▸ Try.rnode_calls x vn vm s W h
  have HN := Lib.hid hN
  have ni : nodeB x (i : Int) = true := by simp [nodeB, hi]
  have nj : nodeB x (j : Int) = true := by simp [nodeB, hj]
  have HX := Lib.hid hx
  obtain ⟨an, cn, rfl, _⟩ := hx.nodes.dat
  obtain ⟨hml, hmv⟩ := hg.matrix h0
  have hlt : i * x.nodes.length + j < x.nodes.length * x.nodes.length := by
    have h1 : (i + 1) * x.nodes.length ≤ x.nodes.length * x.nodes.length := Nat.mul_le_mul_right _ hi
    rw [Nat.add_mul] at h1; omega
  have hW : way x i j = x.matrix.getD (i * x.nodes.length + j) 0 := by unfold way; rw [if_pos h0]
  rw [hW]
  obtain ⟨am, cm, rfl, hM⟩ := hx.matrix.dat
  rcases hM with h | ⟨b, off, rfl, hMb, hM⟩
  · rw [h] at hml; simp only [List.length_nil] at hml; omega
  obtain ⟨v, hv⟩ : ∃ v, x.matrix[i * x.nodes.length + j]? = some v := ⟨_, List.getElem?_eq_getElem (by omega)⟩
  have hc := hM _ _ hv
  have e : x.matrix.getD (i * x.nodes.length + j) 0 = v := by rw [List.getD, hv]; rfl
  rw [e]
  have w1 : wrap64 ((i : Int) * (x.nodes.length : Int)) = ((i * x.nodes.length : Nat) : Int) := by
    have h2 : i * x.nodes.length < 400 * 400 := Nat.lt_of_lt_of_le (show i * x.nodes.length < x.nodes.length * x.nodes.length by omega) (Nat.mul_le_mul hg.hi hg.hi)
    rw [Int.natCast_mul]
    unfold wrap64
    have h3 : (i : Int) * (x.nodes.length : Int) = ((i * x.nodes.length : Nat) : Int) := by rw [Int.natCast_mul]
    rw [h3]; omega
  have hb : i * x.nodes.length + j < 160000 := Nat.lt_of_lt_of_le hlt (Nat.mul_le_mul hg.hi hg.hi)
  have hm : (x.metric == 0) = true := beq_iff_eq.2 h0
  rw [← hml] at hlt
  unfold insV at HN ⊢
  have HC := Lib.hid hc
  clear hN hx hmv hM hml e hW hg hv h0
  generalize i * x.nodes.length = P at *
  generalize x.nodes.length = L at *
  generalize x.matrix.length = M at *
  have hc := HC.out
  have hPj : (P : Int) + (j : Int) < (M : Int) := by omega
  have B0 := InsBox.new w x (.slice an L cn) (.slice (some ⟨b, off, none⟩) M cm) 40
  have X0 := HX.out.next (fbelow_box w (.cells #[.string x.name, .int .i64 x.kind, .int .i64 x.metric, .int .i64 x.scale, .int .i64 x.cap, .int .i64 x.fleet, .slice an L cn, .slice (some ⟨b, off, none⟩) M cm] 40))
  have R0 := fbelow_box w (.cells #[.string x.name, .int .i64 x.kind, .int .i64 x.metric, .int .i64 x.scale, .int .i64 x.cap, .int .i64 x.fleet, .slice an L cn, .slice (some ⟨b, off, none⟩) M cm] 40)
  have HB0 := Lib.hid B0
  have HX0 := Lib.hid X0
  have HR0 := Lib.hid R0
  clear B0 X0 R0 hc
  go_enter Try.func58, Try.ntmps58
  go_wp2_with (go_at_call 72; (with_reducible refine (HN.out _ _ HX0.out ni).mono ?_); rintro e w1 ⟨rfl, hb1⟩; have B1 := HB0.out.next hb1; have R1 := HR0.out.trans (hb1.mono HR0.out.size); have X1 := Lib.hid (HX0.out.next hb1); have HB1 := Lib.hid B1; obtain ⟨c0, c1, c2, c3, c4, c5, c6, c7⟩ := B1.cells; clear B1 hb1)
  go_wp2_with (go_at_call 72; (with_reducible refine (HN.out _ _ X1.out nj).mono ?_); rintro e w2 ⟨rfl, hb2⟩; have B2 := HB1.out.next hb2; have R2 := R1.trans (hb2.mono R1.size); clear c0 c1 c2 c3 c4 c5 c6 c7; obtain ⟨c0, c1, c2, c3, c4, c5, c6, c7⟩ := B2.cells; have hc := (R2.cell (p := ⟨b, off + (P + j), none⟩) hMb).trans HC.out; clear B2 hb2)
  go_ret2
  exact ⟨rfl, R2⟩
theorem wrap_i64 {n : Int} (h1 : -9223372036854775808 ≤ n) (h2 : n ≤ 9223372036854775807) : IntKind.i64.wrap n = n := by
  simp [IntKind.wrap, IntKind.signed, IntKind.bits]; omega
structure WayS (B : Nat) (m sc : Int) (vn : Value) (b oi oj : Nat) (ix iy jx jy : Int) (w W : World) : Prop where
  m : W.cell? ⟨B, 2, none⟩ = some (.int .i64 m)
  sc : W.cell? ⟨B, 3, none⟩ = some (.int .i64 sc)
  vn : W.cell? ⟨B, 6, none⟩ = some vn
  ix : W.cell? ⟨b, oi, none⟩ = some (.int .i64 ix)
  iy : W.cell? ⟨b, oi + 1, none⟩ = some (.int .i64 iy)
  jx : W.cell? ⟨b, oj, none⟩ = some (.int .i64 jx)
  jy : W.cell? ⟨b, oj + 1, none⟩ = some (.int .i64 jy)
  below : Below w.heap.size w W
theorem cell_lt {W : World} {b o : Nat} {v : Value} (h : W.cell? ⟨b, o, none⟩ = some v) : b < W.heap.size := World.block_lt_of_cell? W _ h
theorem WayS.next {B : Nat} {m sc : Int} {vn : Value} {b oi oj : Nat} {ix iy jx jy : Int} {w W W' : World} (h : WayS B m sc vn b oi oj ix iy jx jy w W) (hb : Below W.heap.size W W') : WayS B m sc vn b oi oj ix iy jx jy w W' :=
  ⟨(hb.cell (p := ⟨B, 2, none⟩) (cell_lt h.m)).trans h.m, (hb.cell (p := ⟨B, 3, none⟩) (cell_lt h.m)).trans h.sc, (hb.cell (p := ⟨B, 6, none⟩) (cell_lt h.m)).trans h.vn, (hb.cell (p := ⟨b, oi, none⟩) (cell_lt h.ix)).trans h.ix, (hb.cell (p := ⟨b, oi + 1, none⟩) (cell_lt h.ix)).trans h.iy, (hb.cell (p := ⟨b, oj, none⟩) (cell_lt h.ix)).trans h.jx, (hb.cell (p := ⟨b, oj + 1, none⟩) (cell_lt h.ix)).trans h.jy, h.below.trans (hb.mono h.below.size)⟩
theorem WayS.drew {B : Nat} {m sc : Int} {vn : Value} {b oi oj : Nat} {ix iy jx jy : Int} {w W : World} (h : WayS B m sc vn b oi oj ix iy jx jy w W) : WayS B m sc vn b oi oj ix iy jx jy w W.drew := ⟨h.m, h.sc, h.vn, h.ix, h.iy, h.jx, h.jy, h.below.drew⟩
theorem wayS_S {B : Nat} {m sc : Int} {vn : Value} {b oi oj : Nat} {ix iy jx jy : Int} {w W : World} (h : WayS B m sc vn b oi oj ix iy jx jy w W) : W.cell? ⟨B, 2, none⟩ = some (.int .i64 m) ∧ W.cell? ⟨B, 3, none⟩ = some (.int .i64 sc) ∧ W.cell? ⟨B, 6, none⟩ = some vn ∧ W.cell? ⟨b, oi, none⟩ = some (.int .i64 ix) ∧ W.cell? ⟨b, oi + 1, none⟩ = some (.int .i64 iy) ∧ W.cell? ⟨b, oj, none⟩ = some (.int .i64 jx) ∧ W.cell? ⟨b, oj + 1, none⟩ = some (.int .i64 jy) ∧ WayS B m sc vn b oi oj ix iy jx jy w W := ⟨h.m, h.sc, h.vn, h.ix, h.iy, h.jx, h.jy, h⟩
theorem way_dist {x : Ins} (hg : Fine x) (h0 : x.metric ≠ 0) {i j : Nat} : distE x.metric x.scale ((at' x j).x - (at' x i).x) ((at' x j).y - (at' x i).y) = (way x i j, 0) := by
  have h1 := hg.metric
  have h2 := hg.scale
  have h3 := hg.xy i
  have h4 := hg.xy j
  rw [distE_ok (by omega) (fitsB_of (by omega) (by omega)) (fitsB_of (by omega) (by omega))]
  unfold way; rw [if_neg h0]
set_option maxRecDepth 100000 in
theorem Try.RBetween_far (x : Ins) (vn vm : Value) (i j : Nat) (w : World) (hx : HasIns w vn vm x) (hg : Fine x) (hi : i < x.nodes.length) (hj : j < x.nodes.length) (h0 : x.metric ≠ 0) :
    Calls Try.prog 58 #[insV x vn vm, .int .i64 (i : Int), .int .i64 (j : Int)] w fun e w' => e = .returned (.tuple #[.int .i64 (way x i j), .int .i64 0]) ∧ Below w.heap.size w w' := by
  have hN : ∀ (s : Int) (W : World), HasIns W vn vm x → nodeB x s = true → Calls Try.prog 72 #[insV x vn vm, .int .i64 s] W fun e w' => e = .returned (.bool true) ∧ Below W.heap.size W w' := fun s W h hs => hs ▸ Try.rnode_calls x vn vm s W h
  have HN := Lib.hid hN
  have ni : nodeB x (i : Int) = true := by simp [nodeB, hi]
  have nj : nodeB x (j : Int) = true := by simp [nodeB, hj]
  have HX := Lib.hid hx
  have hD : ∀ W, Calls Try.prog 73 #[.int .i64 x.metric, .int .i64 x.scale, .int .i64 ((at' x j).x - (at' x i).x), .int .i64 ((at' x j).y - (at' x i).y)] W fun e w' => e = .returned (.tuple #[.int .i64 (way x i j), .int .i64 0]) ∧ Below W.heap.size W w' := fun W => by
    have h := Try.RDist_calls x.metric x.scale ((at' x j).x - (at' x i).x) ((at' x j).y - (at' x i).y) W
    rw [way_dist hg h0] at h
    exact h
  obtain ⟨b, off, cn, rfl, hlc, hcm, hNo⟩ := hx.all hg.lo
  obtain ⟨am, cm, rfl, _⟩ := hx.matrix.dat
  have hm : (x.metric == 0) = false := beq_eq_false_iff_ne.2 h0
  have hii : (i : Int) < (x.nodes.length : Int) := by omega
  have hjj : (j : Int) < (x.nodes.length : Int) := by omega
  have g1 := hg.xy i
  have g2 := hg.xy j
  have HI := Lib.hid (nodesAt_nd hNo hi)
  have HJ := Lib.hid (nodesAt_nd hNo hj)
  have hbw := hNo.1
  have e1 : IntKind.i64.wrap ((at' x j).x - (at' x i).x) = (at' x j).x - (at' x i).x := wrap_i64 (by omega) (by omega)
  have e2 : IntKind.i64.wrap ((at' x j).y - (at' x i).y) = (at' x j).y - (at' x i).y := wrap_i64 (by omega) (by omega)
  rw [← e1, ← e2] at hD
  clear e1 e2
  have HD := Lib.hid hD
  unfold insV at HN ⊢
  clear hN hx hg h0 hD hNo
  generalize way x i j = u at *
  generalize at' x i = di at *
  generalize at' x j = dj at *
  generalize x.nodes.length = L at *
  generalize x.matrix.length = M at *
  have HB0 := Lib.hid (InsBox.new w x (.slice (some ⟨b, off, none⟩) L cn) (.slice am M cm) 40)
  have HX0 := Lib.hid (HX.out.next (fbelow_box w (.cells #[.string x.name, .int .i64 x.kind, .int .i64 x.metric, .int .i64 x.scale, .int .i64 x.cap, .int .i64 x.fleet, .slice (some ⟨b, off, none⟩) L cn, .slice am M cm] 40)))
  have HR0 := Lib.hid (fbelow_box w (.cells #[.string x.name, .int .i64 x.kind, .int .i64 x.metric, .int .i64 x.scale, .int .i64 x.cap, .int .i64 x.fleet, .slice (some ⟨b, off, none⟩) L cn, .slice am M cm] 40))
  go_enter Try.func58, Try.ntmps58
  go_wp2_with (go_at_call 72; (with_reducible refine (HN.out _ _ HX0.out ni).mono ?_); rintro e w1 ⟨rfl, hb1⟩; have B1 := HB0.out.next hb1; have R1 := HR0.out.trans (hb1.mono HR0.out.size); have X1 := Lib.hid (HX0.out.next hb1); have HB1 := Lib.hid B1; obtain ⟨c0, c1, c2, c3, c4, c5, c6, c7⟩ := B1.cells; clear B1 hb1)
  go_wp2_with (go_at_call 72; (with_reducible refine (HN.out _ _ X1.out nj).mono ?_); rintro e w2 ⟨rfl, hb2⟩; have B2 := HB1.out.next hb2; have R2 := R1.trans (hb2.mono R1.size); clear c0 c1 c2 c3 c4 c5 c6 c7; obtain ⟨c0, c1, c2, c3, c4, c5, c6, c7⟩ := B2.cells; have HI2 := HI.out.below R2 hbw; have HJ2 := HJ.out.below R2 hbw; obtain ⟨i0, i1, i2, i3, i4, i5, i6⟩ := HI2; obtain ⟨j0, j1, j2, j3, j4, j5, j6⟩ := HJ2; clear B2 hb2)
  clear HN HX HB0 HX0 HR0 X1 HB1 R1 HI HJ
  clear c0 c1 c4 c5 c7 i2 i3 i4 i5 i6 j2 j3 j4 j5 j6
  have HR2 := Lib.hid R2
  clear R2
  have hS : WayS w.heap.size x.metric x.scale (.slice (some ⟨b, off, none⟩) L cn) b (off + i * 7) (off + j * 7) di.x di.y dj.x dj.y w w2 := ⟨c2, c3, c6, i0, i1, j0, j1, HR2.out⟩
  clear c2 c3 c6 i0 i1 j0 j1 HR2
  go_region_held3 (fun W => W.cell? ⟨w.heap.size, 2, none⟩ = some (.int .i64 x.metric) ∧ W.cell? ⟨w.heap.size, 3, none⟩ = some (.int .i64 x.scale) ∧ W.cell? ⟨w.heap.size, 6, none⟩ = some (.slice (some ⟨b, off, none⟩) L cn) ∧ W.cell? ⟨b, off + i * 7, none⟩ = some (.int .i64 di.x) ∧ W.cell? ⟨b, off + i * 7 + 1, none⟩ = some (.int .i64 di.y) ∧ W.cell? ⟨b, off + j * 7, none⟩ = some (.int .i64 dj.x) ∧ W.cell? ⟨b, off + j * 7 + 1, none⟩ = some (.int .i64 dj.y) ∧ WayS w.heap.size x.metric x.scale (.slice (some ⟨b, off, none⟩) L cn) b (off + i * 7) (off + j * 7) di.x di.y dj.x dj.y w W)
    ((go_split_ands; (first | exact wayS_S (by assumption) | exact wayS_S (WayS.drew (by assumption)) | exact wayS_S (WayS.next (by assumption) (by assumption)))))
    ((go_at_call 73; (with_reducible refine (HD.out _).mono ?_); rintro e w3 ⟨rfl, hb3⟩))
  have T := (show _ ∧ _ ∧ _ ∧ _ ∧ _ ∧ _ ∧ _ ∧ WayS w.heap.size x.metric x.scale (.slice (some ⟨b, off, none⟩) L cn) b (off + i * 7) (off + j * 7) di.x di.y dj.x dj.y w w3 by assumption).2.2.2.2.2.2.2
  have BT := T.below
  clear hS T HD
  go_wp2
  go_ret2
  exact ⟨rfl, BT⟩
theorem Try.RBetween_calls (x : Ins) (vn vm : Value) (i j : Nat) (w : World) (hx : HasIns w vn vm x) (hg : Fine x) (hi : i < x.nodes.length) (hj : j < x.nodes.length) :
    Calls Try.prog 58 #[insV x vn vm, .int .i64 (i : Int), .int .i64 (j : Int)] w fun e w' => e = .returned (.tuple #[.int .i64 (way x i j), .int .i64 0]) ∧ Below w.heap.size w w' := by
  by_cases h0 : x.metric = 0
  · exact Try.RBetween_mat x vn vm i j w hx hg hi hj h0
  · exact Try.RBetween_far x vn vm i j w hx hg hi hj h0
end Go.Proofs
/- The document's own answers for layer 7: row, column, at, Index. Conditions: where a layout is asked of, that it is one, of 1 to 400 rows. -/
namespace Go.Proofs
open Go.RowKit Go.Shelf Go.Layout
attribute [local go_sem] Oper.semAt_some



end Go.Proofs
/- The document's own answers for layer 7: Index and Count, at any numbers. Conditions: none. -/
namespace Go.Layout
/-- layout.Index. -/
def indexE (k n i j : Int) : Int := if mayB k n = true ∧ (0 ≤ i ∧ i < n) ∧ (0 ≤ j ∧ j < n) then index k.toNat n.toNat i.toNat j.toNat else -1
/-- layout.Count. -/
def countE (k n : Int) : Int := if mayB k n = true then (count k.toNat n.toNat : Int) else 0
theorem indexE_in {k n i j : Nat} (h1 : 1 ≤ k) (h2 : k ≤ 7) (h3 : n ≤ 400) (hi : i < n) (hj : j < n) : indexE k n i j = index k n i j := by
  unfold indexE; rw [if_pos ⟨mayB_nat h1 h2 (by omega) h3, by omega, by omega⟩]; simp
theorem indexE_out {k n i j : Int} (h : ¬ (mayB k n = true ∧ (0 ≤ i ∧ i < n) ∧ (0 ≤ j ∧ j < n))) : indexE k n i j = -1 := by unfold indexE; rw [if_neg h]
theorem countE_in {k n : Nat} (h1 : 1 ≤ k) (h2 : k ≤ 7) (h3 : 1 ≤ n) (h4 : n ≤ 400) : countE k n = count k n := by
  unfold countE; rw [if_pos (mayB_nat h1 h2 h3 h4)]; simp
theorem countE_out {k n : Int} (h : mayB k n = false) : countE k n = 0 := by unfold countE; rw [h]; simp
theorem nat_in {z : Int} (h : 0 ≤ z) : ∃ m : Nat, z = (m : Int) := ⟨z.toNat, by omega⟩
end Go.Layout
namespace Go.Proofs
open Go.RowKit Go.Shelf Go.Layout
attribute [local go_sem] Oper.semAt_some




end Go.Proofs
/- The document's own answer for layout.Unpack. Conditions: none but that what is handed in is a slice of ints. -/
namespace Go.Proofs
open Go.RowKit Go.Shelf Go.Layout Go.Sort
attribute [local go_sem] Oper.semAt_some

theorem cells_one (W : World) (a : Value) (t : TypeId) : ∀ (j : Nat) (u : Value), [a][j]? = some u → (W.alloc (.cells #[a] t)).cell? ((⟨W.heap.size, 0, none⟩ : Addr).add j) = some u := by
  intro j u h
  have e := World.alloc_heap_new W (.cells #[a] t)
  have hb : ((⟨W.heap.size, 0, none⟩ : Addr).add j) = ⟨W.heap.size, j, none⟩ := by
    unfold Addr.add
    split
    · rename_i h0; rw [h0]
    · simp
  rw [hb]
  unfold World.cell?
  simp only [e]
  simpa using h
theorem lset_below {B : Nat} {w W : World} (h : Below B w W) {g j : Nat} (hg : B ≤ g) (u : Value) : Below B w (W.setCell ⟨g, j, none⟩ u) := h.setCell (p := ⟨g, j, none⟩) hg u
theorem owns_cell {W : World} {base : Nat} {e : TypeId} {g c cap : Nat} {L : List Int} (h : W.ownsRow base e 1 (.slice (some ⟨g, 0, none⟩) c cap) c (L.map intV)) {j : Nat} (hj : j < c) : ∃ z, W.cell? ⟨g, j, none⟩ = some (.int .i64 z) := by
  have hl : L.length = c := by have := h.1; simpa using this
  refine ⟨L[j]'(by omega), ?_⟩
  rw [World.ownsRow.cellAt h j (by omega)]
  simp [intV, List.getElem?_eq_getElem (show j < L.length by omega)]
theorem map_set (l : List Int) (j : Nat) (x : Int) : (l.map intV).set j (intV x) = (l.set j x).map intV := by rw [List.map_set]
theorem lgrown_below {n₀ : Nat} {w wr w1 : World} {tmp : Obj} {v : Value} {e : TypeId} {size k : Nat} {xs : List Value} (hB : Below n₀ w wr) (hn : n₀ ≤ wr.heap.size) (hown : wr.ownsRow n₀ e size v k xs) (hgrow : (wr.alloc tmp).grownBy w1 v.ownBlock) : Below n₀ w w1 := by
  refine (hB.alloc hn tmp).grown hgrow (by simp; omega) ?_
  intro k hk
  rcases hown.2 with ⟨rfl, _⟩ | ⟨g, cap, cur, rfl, hbg, _⟩
  · simp [Value.ownBlock] at hk
  · have : g = k := by simpa [Value.ownBlock] using hk
    omega
theorem owns_empty1 (w : World) (e : TypeId) : (w.alloc (.cells #[] e)).ownsRow w.heap.size e 1 (.slice (some ⟨w.heap.size, 0, none⟩) 0 0) 0 [] :=
  ⟨rfl, .inr ⟨w.heap.size, 0, #[], rfl, Nat.le_refl _, World.alloc_heap_new w _, Nat.le_refl _, Nat.zero_le _, rfl, rfl⟩⟩

end Go.Proofs
