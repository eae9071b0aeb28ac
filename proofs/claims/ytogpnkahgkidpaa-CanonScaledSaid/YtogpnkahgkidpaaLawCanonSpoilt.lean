/- The law CanonSpoilt of layer 8, as a contract: it answers true at every instance and two numbers. Conditions: the numbers are of a byte. -/
import Derived.Test.YtogpnkahgkidpaaLawCanonNormal
namespace Go.Proofs
open Go.RowKit Go.Shelf Go.Canon
attribute [local go_sem] Oper.semAt_some

theorem flat_set0 : ∀ {l : List Nd} {k : Nat} {d : Nd}, l[k]? = some d → (l.flatMap ndC).set (k * 7) (.int .i64 100000001) = (l.set k (farNd d)).flatMap ndC
  | [], k, d, h => by simp at h
  | a :: l, 0, d, h => by
    have e : a = d := by simpa using h
    subst e
    simp [ndC, farNd]
  | a :: l, k + 1, d, h => by
    have h' : l[k]? = some d := by simpa using h
    have hl : (ndC a).length = 7 := rfl
    rw [List.flatMap_cons, List.set_cons_succ, List.flatMap_cons, ← flat_set0 h', List.set_append_right _ _ (by rw [hl]; omega), hl]
    rw [show (k + 1) * 7 - 7 = k * 7 by omega]
theorem flat_set5 : ∀ {l : List Nd} {k : Nat} {d : Nd}, l[k]? = some d → (l.flatMap ndC).set (k * 7 + 5) (.int .i64 (-1)) = (l.set k (slowNd d)).flatMap ndC
  | [], k, d, h => by simp at h
  | a :: l, 0, d, h => by
    have e : a = d := by simpa using h
    subst e
    simp [ndC, slowNd]
  | a :: l, k + 1, d, h => by
    have h' : l[k]? = some d := by simpa using h
    have hl : (ndC a).length = 7 := rfl
    rw [List.flatMap_cons, List.set_cons_succ, List.flatMap_cons, ← flat_set5 h', List.set_append_right _ _ (by rw [hl]; omega), hl]
    rw [show (k + 1) * 7 + 5 - 7 = k * 7 + 5 by omega]
/-- An instance, and its copy with a row of its own. -/
structure SpS (w : World) (x : Ins) (un um : Value) (bq : Nat) (vr : Value) (W : World) : Prop where
  bx : IBox W w.heap.size x un um
  qb : IBox W bq x vr um
  row : W.ownsRow (w.heap.size + 1) 46 7 vr x.nodes.length (x.nodes.flatMap ndC)
  lt : w.heap.size < bq
  below : Below w.heap.size w W
theorem SpS.base {w W : World} {x : Ins} {un um vr : Value} {bq : Nat} (h : SpS w x un um bq vr W) (hx : HasIns w un um x) : LawBQ w x un um bq x vr um W :=
  ⟨h.bx, h.qb, hx.next h.below, ⟨nodes_of_owns h.row, hx.matrix.next h.below⟩, h.below⟩
/-- One field of the copy is another one. -/
theorem SpS.field {w W : World} {x y : Ins} {un um vr : Value} {bq j : Nat} {u : Value} (h : SpS w x un um bq vr W) (hx : HasIns w un um x) (hn : y.nodes = x.nodes) (hm : y.matrix = x.matrix)
    (he : (#[Value.string x.name, .int .i64 x.kind, .int .i64 x.metric, .int .i64 x.scale, .int .i64 x.cap, .int .i64 x.fleet, vr, um] : Array Value).setIfInBounds j u = #[Value.string y.name, .int .i64 y.kind, .int .i64 y.metric, .int .i64 y.scale, .int .i64 y.cap, .int .i64 y.fleet, vr, um]) : LawBQ w x un um bq y vr um (W.setCell ⟨bq, j, none⟩ u) := by
  have hb : Below w.heap.size w (W.setCell ⟨bq, j, none⟩ u) := h.below.setCell (by show w.heap.size ≤ bq; have := h.lt; omega) _
  have hlt := h.lt
  have hbq := h.qb
  unfold IBox at hbq
  refine ⟨(Below.heap_setCell _ _ _ _ (by show w.heap.size ≠ bq; omega)).trans h.bx, ?_, hx.next hb, ⟨?_, by rw [hm]; exact hx.matrix.next hb⟩, hb⟩
  · unfold IBox
    rw [← he]
    simp [World.setCell, Array.getElem?_modify, hbq]
  · rw [hn]
    refine nodes_of_owns (h.row.kept (row := some bq) ⟨rfl, rfl, rfl, by simp [World.setCell], fun k _ hk => Below.heap_setCell _ _ _ _ (fun e => hk (by rw [e]))⟩ (.inr fun e => ?_))
    rcases h.row.2 with ⟨rfl, _⟩ | ⟨g, cap, cur, rfl, _, hg, _⟩
    · simp [Value.ownBlock] at e
    · have e1 : g = bq := by simpa [Value.ownBlock] using e
      rw [e1, hbq] at hg
      injection hg with hg
      injection hg with _ e2
      exact absurd e2 (by decide)
/-- One cell of the copy's nodes is another one. -/
theorem SpS.node {w W : World} {x : Ins} {un um : Value} {bq g c j L : Nat} {u : Value} {l : List Nd} (h : SpS w x un um bq (.slice (some ⟨g, 0, none⟩) L c) W) (hx : HasIns w un um x) (hL : x.nodes.length = L) (h0 : 0 < L) (hl : l.length = L)
    (he : (x.nodes.flatMap ndC).set j u = l.flatMap ndC) : LawBQ w x un um bq { x with nodes := l } (.slice (some ⟨g, 0, none⟩) L c) um (W.setCell ⟨g, j, none⟩ u) := by
  have hrow := h.row
  rw [hL] at hrow
  obtain ⟨g', e, hg⟩ := owns_some hrow h0
  obtain rfl : g = g' := by injection e with a; injection a
  have hb : Below w.heap.size w (W.setCell ⟨g, j, none⟩ u) := h.below.setCell (by show w.heap.size ≤ g; omega) _
  have hgb : g ≠ bq := fun e1 => by
    rcases hrow.2 with ⟨e0, _⟩ | ⟨g1, cap1, cur1, e2, _, hg1, _⟩
    · cases e0
    · have e3 : g = g1 := by injection e2 with a; injection a with a; injection a
      have hbq := h.qb
      unfold IBox at hbq
      rw [← e3, e1, hbq] at hg1
      injection hg1 with hg1
      injection hg1 with _ e4
      exact absurd e4 (by decide)
  have r2 := (hrow.stored j u).1
  rw [he] at r2
  refine ⟨(Below.heap_setCell _ _ _ _ (by show w.heap.size ≠ g; omega)).trans h.bx, (Below.heap_setCell _ _ _ _ (fun e => hgb e.symm)).trans h.qb, hx.next hb, ⟨?_, hx.matrix.next hb⟩, hb⟩
  have r3 := nodes_of_owns (l := l) (by rw [hl]; exact r2)
  exact r3
theorem sp_most {x : Ins} (h : wellB nameB x = true) : 1 ≤ x.nodes.length ∧ x.nodes.length ≤ 400 := ⟨(well_iff.1 h).lo, (well_iff.1 h).hi⟩
theorem well_not {x : Ins} {p : Nat × Nat} (h : checkL nameB x = [p]) : wellB nameB x = false := by unfold wellB; rw [h]; rfl
theorem at_get {x : Ins} {i : Nat} (hi : i < x.nodes.length) : x.nodes[i]? = some (at' x i) := by simp [at', List.getD, hi]
theorem sp_made {w W : World} {x : Ins} {un um vr v0 : Value} {bq L : Nat} (h : LawBQ w x un um bq x v0 um W) (hlt : w.heap.size < bq) (hL : x.nodes.length = L) {B : Nat} (h2 : (W.setCell ⟨bq, 6, none⟩ vr).ownsRow B 46 7 vr L (x.nodes.flatMap ndC)) (hB : w.heap.size + 1 ≤ B) : SpS w x un um bq vr (W.setCell ⟨bq, 6, none⟩ vr) := by
  have hbq := h.bq
  unfold IBox at hbq
  refine ⟨(Below.heap_setCell _ _ _ _ (by show w.heap.size ≠ bq; omega)).trans h.bx, ?_, by rw [hL]; exact owns_low h2 hB, hlt, h.below.setCell (by show w.heap.size ≤ bq; omega) _⟩
  unfold IBox
  simp [World.setCell, Array.getElem?_modify, hbq]
set_option maxRecDepth 100000 in
set_option maxHeartbeats 4000000 in
theorem Try.CanonSpoilt_long (x : Ins) (vn vm : Value) (a b : Int) (w : World) (hx : HasIns w vn vm x) (h : longB x = true ∨ longB x = false ∧ wellB nameB x = false) :
    Calls Try.prog 7 #[insV x vn vm, .int .u8 a, .int .u8 b] w fun e w' => e = .returned (.bool true) ∧ Below w.heap.size w w' := by
  have HLONG := Lib.hid (fun W h => Try.llong_calls x vn vm W h)
  have HSH := Lib.hid (fun W => Try.shown_calls W)
  have HB := Lib.hid (LawB.new hx)
  rcases h with hl | ⟨hl, hw⟩
  · rw [hl] at HLONG
    obtain ⟨an, cn, rfl, _⟩ := hx.nodes.dat
    obtain ⟨am, cm, rfl, _⟩ := hx.matrix.dat
    unfold insV at *
    clear hx hl
    generalize x.nodes.length = L at *
    generalize x.matrix.length = M at *
    go_enter Try.func7, Try.ntmps7
    go_wp2_with (fail)
    (with_reducible refine (HLONG.out _ HB.out.ins).mono ?_)
    rintro e w1 ⟨rfl, hb1⟩
    have hB1 := (below_box _ _).trans (hb1.mono (below_box _ _).size)
    clear hb1 HLONG
    go_wp2_with (fail)
    (with_reducible refine (HSH.out _).mono ?_)
    rintro e w2 ⟨rfl, hb2⟩
    go_wp2
    go_ret
    exact ⟨rfl, hB1.trans (hb2.mono hB1.size)⟩
  · rw [hl] at HLONG
    obtain ⟨b1, b2, b3⟩ := long_no hl
    have H15 := Lib.hid (fun W h => Try.L15 x vn vm W h b1)
    have H21 := Lib.hid (fun v W h => Try.L21 x v vm W h b3)
    rw [hw] at H21
    obtain ⟨an, cn, rfl, _⟩ := hx.nodes.dat
    obtain ⟨am, cm, rfl, _⟩ := hx.matrix.dat
    unfold insV at *
    clear hx hl b1 b2 b3 hw
    generalize x.nodes.length = L at *
    generalize x.matrix.length = M at *
    go_enter Try.func7, Try.ntmps7
    go_wp2_with (fail)
    (with_reducible refine (HLONG.out _ HB.out.ins).mono ?_)
    rintro e w1 ⟨rfl, hb1⟩
    have B1 := Lib.hid (HB.out.next hb1)
    clear hb1 HLONG HB
    obtain ⟨c0, c1, c2, c3, c4, c5, c6, c7⟩ := B1.out.cells
    go_wp2_with (fail)
    (with_reducible refine (H15.out _ B1.out.ins).mono ?_)
    rintro e w2 ⟨v2, rfl, hI, hb2⟩
    have B2 := Lib.hid (B1.out.next hb2)
    have I2 := Lib.hid hI
    obtain ⟨n2, k2, rfl, _⟩ := hI.nodes.dat
    clear c0 c1 c2 c3 c4 c5 c6 c7 hb2 hI B1
    go_wp2_with (fail)
    (with_reducible refine (H21.out _ _ I2.out).mono ?_)
    rintro e w3 ⟨rfl, hb3⟩
    have B3 := Lib.hid (B2.out.next hb3)
    clear hb3 B2 I2
    go_wp2_with (fail)
    (with_reducible refine (HSH.out _).mono ?_)
    rintro e w4 ⟨rfl, hb4⟩
    have B4 := Lib.hid (B3.out.next hb4)
    go_wp2
    go_ret
    exact ⟨rfl, B4.out.below⟩
set_option maxRecDepth 100000 in
set_option maxHeartbeats 8000000 in
theorem Try.CanonSpoilt_calls (x : Ins) (vn vm : Value) (a b : Nat) (w : World) (hx : HasIns w vn vm x) (hl : longB x = false) (hw : wellB nameB x = true) (ha : a < 256) (hb : b < 256) :
    Calls Try.prog 7 #[insV x vn vm, .int .u8 (a : Int), .int .u8 (b : Int)] w fun e w' => e = .returned (.bool true) ∧ Below w.heap.size w w' := by
  have HLONG := Lib.hid (fun W h => Try.llong_calls x vn vm W h)
  rw [hl] at HLONG
  have HSH := Lib.hid (fun W => Try.shown_calls W)
  have HB := Lib.hid (LawB.new hx)
  obtain ⟨b1, b2, b3⟩ := long_no hl
  obtain ⟨m1, m2⟩ := sp_most hw
  have H15 := Lib.hid (fun W h => Try.L15 x vn vm W h b1)
  have H21 := Lib.hid (fun v W h => Try.L21 x v vm W h b3)
  have H16 := Lib.hid (fun W h => Try.well_calls x vn vm W h b3 (by omega))
  have HWI := Lib.hid (well_iff.1 hw)
  have H11 := Lib.hid (fun (y : Ins) (p : Nat × Nat) (u v : Value) (W : World) (h : HasIns W u v y) (h1 : y.name.size ≤ 100) (h2 : y.nodes.length ≤ 420) (h3 : checkL nameB y = [p]) => (show Calls Try.prog 11 #[insV y u v] W fun e w' => ∃ v', e = .returned v' ∧ HasFts w' v' [p] ∧ Below W.heap.size W w' by rw [← h3]; exact Try.L11 y u v W h h1 h2))
  have H16y := Lib.hid (fun (y : Ins) (p : Nat × Nat) (u v : Value) (W : World) (h : HasIns W u v y) (h1 : y.name.size ≤ 100) (h2 : y.nodes.length ≤ 420) (h3 : checkL nameB y = [p]) => (show Calls Try.prog 16 #[insV y u v] W fun e w' => e = .returned (.bool false) ∧ Below W.heap.size W w' by rw [← well_not h3]; exact Try.well_calls y u v W h h1 (by omega)))
  rw [hw] at H21 H16
  have HX := Lib.hid hx
  have HLB := Lib.hid b1
  have HNB := Lib.hid b3
  obtain ⟨bb, off, cn, rfl, hlc, hcm, hbb, hd⟩ := hx.two (show 0 < x.nodes.length by omega)
  have HNN : Hid (NodesAt w bb off x.nodes) := ⟨hbb, fun i d hi => by
    have h1 := (List.getElem?_eq_some_iff.1 hi).1
    have h2 := at_get h1
    rw [h2] at hi
    rw [← Option.some.inj hi]
    exact hd i h1⟩
  obtain ⟨am, cm, rfl, _⟩ := hx.matrix.dat
  obtain ⟨i0, hi, hz0, hz1, hz2⟩ := info_parts Try.info46
  have HI := Lib.hid hi
  have HFL : Hid ((x.nodes.flatMap ndC).length = x.nodes.length * 7) := flat_len (f := ndC) (s := 7) (fun _ => rfl) _
  unfold insV at *
  clear hx hl b1 b2 b3 hw hd hi
  obtain ⟨L, hL⟩ : ∃ L, x.nodes.length = L := ⟨_, rfl⟩
  rw [hL] at HLONG HB H15 H16 HX HFL hlc m1 m2 HLB ⊢
  have HLe := Lib.hid hL
  clear hL
  generalize x.matrix.length = M at *
  go_enter Try.func7, Try.ntmps7
  go_wp2_with (fail)
  (with_reducible refine (HLONG.out _ HB.out.ins).mono ?_)
  rintro e w1 ⟨rfl, hb1⟩
  have B1 := Lib.hid (HB.out.next hb1)
  clear hb1 HLONG HB
  obtain ⟨c0, c1, c2, c3, c4, c5, c6, c7⟩ := B1.out.cells
  go_wp2_with (fail)
  (with_reducible refine (H15.out _ B1.out.ins).mono ?_)
  rintro e w2 ⟨v2, rfl, hI, hb2⟩
  have B2 := Lib.hid (B1.out.next hb2)
  have I2 := Lib.hid hI
  obtain ⟨n2, k2, rfl, _⟩ := hI.nodes.dat
  clear c0 c1 c2 c3 c4 c5 c6 c7 hb2 hI B1
  go_wp2_with (fail)
  (with_reducible refine (H21.out _ _ I2.out).mono ?_)
  rintro e w3 ⟨rfl, hb3⟩
  have B3 := Lib.hid (B2.out.next hb3)
  clear hb3 B2 I2 H15 H21
  go_wp2_with (fail)
  (with_reducible refine (HSH.out _).mono ?_)
  rintro e w4 ⟨rfl, hb4⟩
  have B4 := Lib.hid (B3.out.next hb4)
  clear hb4 B3 HSH
  obtain ⟨c0, c1, c2, c3, c4, c5, c6, c7⟩ := B4.out.cells
  go_upto_region 5 with (fail)
  have hbi : (b : Int) % (L : Int) = ((b % L : Nat) : Int) := by rw [Int.natCast_emod]
  have hil : b % L < L := Nat.mod_lt _ m1
  generalize b % L = i at *
  have HBQ0 : LawBQ w x (.slice (some ⟨bb, off, none⟩) L cn) (.slice am M cm) w4.heap.size x (.slice (some ⟨bb, off, none⟩) L cn) (.slice am M cm) (w4.alloc (.cells #[.string x.name, .int .i64 x.kind, .int .i64 x.metric, .int .i64 x.scale, .int .i64 x.cap, .int .i64 x.fleet, .slice (some ⟨bb, off, none⟩) L cn, .slice am M cm] 25)) :=
    ⟨B4.out.box.next (below_box _ _), IBox.new _ _ _ _, B4.out.ins.next (below_box _ _), B4.out.ins.next (below_box _ _), B4.out.below.alloc B4.out.below.size _⟩
  have hlt4 : w.heap.size < w4.heap.size := B4.out.box.lt
  have HQ := Lib.hid HBQ0
  clear HBQ0 B4 c0 c1 c2 c3 c4 c5 c6 c7
  generalize hV : w4.alloc (.cells #[.string x.name, .int .i64 x.kind, .int .i64 x.metric, .int .i64 x.scale, .int .i64 x.cap, .int .i64 x.fleet, .slice (some ⟨bb, off, none⟩) L cn, .slice am M cm] 25) = V at *
  generalize w4.heap.size = bq at *
  clear hV
  rw [hbi]
  go_cut [32] from 31 to 36 (fun _ wx => ∃ vr, SpS w x (.slice (some ⟨bb, off, none⟩) L cn) (.slice am M cm) bq vr wx)
  case first =>
    obtain ⟨-, -, -, -, -, -, c6, -, -, -, -, -, -, -, d6, -, -⟩ := HQ.out.all
    have z6 : ∀ o, (V.alloc o).cell? ⟨w.heap.size, 6, none⟩ = some (.slice (some ⟨bb, off, none⟩) L cn) := fun o => (HQ.out.next (below_box V o)).bx.p 6
    have hbqV : bq < V.heap.size := HQ.out.bq.lt
    have hml : 0 + L ≤ maxLen := by unfold maxLen; omega
    have hml2 : (0 + L) * 56 ≤ 140737488355328 := by omega
    have HW : Hid (∀ W, Below w.heap.size w W → ∀ (j : Nat) (u : Value), (x.nodes.flatMap ndC)[j]? = some u → W.cell? ((⟨bb, off, none⟩ : Addr).add j) = some u) := fun W hW => nodes_news (HNN.out.below hW HNN.out.1)
    have fq : V.frozen? ⟨bq, 6, none⟩ = false := by
      have h := HQ.out.bq
      unfold IBox at h
      unfold World.frozen?; rw [h]; rfl
    go_wp2_with (at_builtin; refine wpList_append_own _ rfl _ _ 22 rfl V.heap.size 46 i0 (.agg #[.int .i64 0, .int .i64 0, .int .i64 0, .int .i64 0, .int .i64 0, .int .i64 0, .int .i64 0]) 7 56 Try.underlying22 HI.out hz0 hz1 hz2 rfl (by decide) _ 0 [] rfl (cowns_empty V 46 7) ⟨bb, off, none⟩ L cn (x.nodes.flatMap ndC) rfl HFL.out (HW.out _ (HQ.out.below.alloc HQ.out.below.size _)) (nd_one _) hml hml2 (below_box _ _).size ?_; intro v' w5 hown' hgrow _; have hB5 := (below_box V (.cells #[] 46)).grown hgrow (below_box _ _).size (fun k e => ((cowns_empty V 46 7).lt k e).1); have e6 := (hB5.cell (p := ⟨bq, 6, none⟩) hbqV).trans d6; have f6 := (hB5.frozen (p := ⟨bq, 6, none⟩) hbqV).trans fq; have R : Hid (SpS w x (.slice (some ⟨bb, off, none⟩) L cn) (.slice am M cm) bq v' (w5.setCell ⟨bq, 6, none⟩ v')) := sp_made (HQ.out.next hB5) hlt4 HLe.out (cowns_set (by rw [Nat.zero_add] at hown'; exact hown') (by show bq < V.heap.size; exact hbqV) _) HQ.out.bx.lt; obtain ⟨ao, vc, rfl⟩ := owns_dat hown')
    go_meet
    have R2 := R.out
    rw [Nat.zero_add] at R2
    exact ⟨_, R2⟩
  case rest =>
  obtain ⟨vr, hS⟩ := hcut
  have hrow := hS.row
  rw [HLe.out] at hrow
  obtain ⟨ao, rc, rfl⟩ := owns_dat hrow
  obtain ⟨g, rfl, hg⟩ := owns_some hrow m1
  have HS := Lib.hid hS
  obtain ⟨W5, rfl⟩ : ∃ W, W = wc := ⟨_, rfl⟩
  have hat := at_get (x := x) (i := i) (by rw [HLe.out]; exact hil)
  have HAT := Lib.hid hat
  have hii : (i : Int) < (L : Int) := by omega
  have frow := hrow.frozenAt
  have HROW := Lib.hid hrow
  clear hS hat hrow hlc HQ HFL HNN HI hz0 hz1 hz2 hbi
  go_upto_region 9 with (fail)
  obtain ⟨r, hr, hr6⟩ : ∃ r : Nat, (a : Int) % 6 = (r : Int) ∧ r < 6 := ⟨a % 6, by omega, by omega⟩
  rcases r with _ | _ | _ | _ | _ | _ | r
  · rw [show (a : Int) % 6 = _ from hr]
    have q : W5.cell? ⟨bq, 0, none⟩ = some (.string x.name) := HS.out.qb.p 0
    have fq : W5.frozen? ⟨bq, 0, none⟩ = false := by
      have h := HS.out.qb
      unfold IBox at h
      unfold World.frozen?; rw [h]; rfl
    obtain ⟨y, hy⟩ : ∃ y : Ins, y = { x with name := ⟨#[]⟩ } := ⟨_, rfl⟩
    have RQ : Hid (LawBQ w x (.slice (some ⟨bb, off, none⟩) L cn) (.slice am M cm) bq y (.slice (some ⟨g, 0, none⟩) L rc) (.slice am M cm) (W5.setCell ⟨bq, 0, none⟩ (.string ⟨#[]⟩))) := by
      rw [hy]; exact HS.out.field HX.out rfl rfl rfl
    have HCK : Hid (checkL nameB y = [(1, 0)]) := by rw [hy]; exact spoil_name HWI.out (by decide +kernel)
    have HNM : Hid (y.name.size ≤ 100) := by rw [hy]; first | exact HNB.out | exact (show (0 : Nat) ≤ 100 from Nat.zero_le _)
    have HND : Hid (y.nodes.length ≤ 420) := by rw [hy]; show x.nodes.length ≤ 420; rw [HLe.out]; exact HLB.out
    clear hy hr hr6
    go_upto_region 28 with (fail)
    generalize W5.setCell ⟨bq, 0, none⟩ (.string ⟨#[]⟩) = W6 at *
    clear q fq
    obtain ⟨c0, c1, c2, c3, c4, c5, c6, c7, d0, d1, d2, d3, d4, d5, d6, d7, -⟩ := RQ.out.all
    go_wp2_with (fail)
    (with_reducible refine (H11.out y (1, 0) _ _ _ RQ.out.iy HNM.out HND.out HCK.out).mono ?_)
    rintro e w7 ⟨v7, rfl, hF, hb7⟩
    have Q7 := Lib.hid (RQ.out.next hb7)
    clear c0 c1 c2 c3 c4 c5 c6 c7 d0 d1 d2 d3 d4 d5 d6 d7
    rcases hF with ⟨h0, _⟩ | ⟨fb, fo, fc, rfl, _, _, hfd⟩
    · cases h0
    have z0 : w7.cell? ⟨fb, fo, none⟩ = some (.int .i64 1) := (hfd.2 0 _ rfl).1
    have z1 : w7.cell? ⟨fb, fo + 1, none⟩ = some (.int .i64 0) := (hfd.2 0 _ rfl).2
    obtain ⟨c0, c1, c2, c3, c4, c5, c6, c7, -⟩ := Q7.out.all
    clear hb7 hfd RQ
    go_wp2_with (fail)
    (with_reducible refine (H16.out _ Q7.out.ix).mono ?_)
    rintro e w8 ⟨rfl, hb8⟩
    have Q8 := Lib.hid (Q7.out.next hb8)
    clear c0 c1 c2 c3 c4 c5 c6 c7 z0 z1 hb8 Q7
    obtain ⟨-, -, -, -, -, -, -, -, d0, d1, d2, d3, d4, d5, d6, d7, -⟩ := Q8.out.all
    go_wp2_with (fail)
    (with_reducible refine (H16y.out y (1, 0) _ _ _ Q8.out.iy HNM.out HND.out HCK.out).mono ?_)
    rintro e w9 ⟨rfl, hb9⟩
    have Q9 := Lib.hid (Q8.out.next hb9)
    clear d0 d1 d2 d3 d4 d5 d6 d7 hb9 Q8
    go_wp2
    go_ret
    exact ⟨rfl, Q9.out.below⟩
  · rw [show (a : Int) % 6 = _ from hr]
    have q : W5.cell? ⟨bq, 3, none⟩ = some (.int .i64 x.scale) := HS.out.qb.p 3
    have fq : W5.frozen? ⟨bq, 3, none⟩ = false := by
      have h := HS.out.qb
      unfold IBox at h
      unfold World.frozen?; rw [h]; rfl
    obtain ⟨y, hy⟩ : ∃ y : Ins, y = { x with scale := 7 } := ⟨_, rfl⟩
    have RQ : Hid (LawBQ w x (.slice (some ⟨bb, off, none⟩) L cn) (.slice am M cm) bq y (.slice (some ⟨g, 0, none⟩) L rc) (.slice am M cm) (W5.setCell ⟨bq, 3, none⟩ (.int .i64 7))) := by
      rw [hy]; exact HS.out.field HX.out rfl rfl rfl
    have HCK : Hid (checkL nameB y = [(4, 0)]) := by rw [hy]; exact spoil_scale HWI.out
    have HNM : Hid (y.name.size ≤ 100) := by rw [hy]; first | exact HNB.out | exact (show (0 : Nat) ≤ 100 from Nat.zero_le _)
    have HND : Hid (y.nodes.length ≤ 420) := by rw [hy]; show x.nodes.length ≤ 420; rw [HLe.out]; exact HLB.out
    clear hy hr hr6
    go_upto_region 28 with (fail)
    generalize W5.setCell ⟨bq, 3, none⟩ (.int .i64 7) = W6 at *
    clear q fq
    obtain ⟨c0, c1, c2, c3, c4, c5, c6, c7, d0, d1, d2, d3, d4, d5, d6, d7, -⟩ := RQ.out.all
    go_wp2_with (fail)
    (with_reducible refine (H11.out y (4, 0) _ _ _ RQ.out.iy HNM.out HND.out HCK.out).mono ?_)
    rintro e w7 ⟨v7, rfl, hF, hb7⟩
    have Q7 := Lib.hid (RQ.out.next hb7)
    clear c0 c1 c2 c3 c4 c5 c6 c7 d0 d1 d2 d3 d4 d5 d6 d7
    rcases hF with ⟨h0, _⟩ | ⟨fb, fo, fc, rfl, _, _, hfd⟩
    · cases h0
    have z0 : w7.cell? ⟨fb, fo, none⟩ = some (.int .i64 4) := (hfd.2 0 _ rfl).1
    have z1 : w7.cell? ⟨fb, fo + 1, none⟩ = some (.int .i64 0) := (hfd.2 0 _ rfl).2
    obtain ⟨c0, c1, c2, c3, c4, c5, c6, c7, -⟩ := Q7.out.all
    clear hb7 hfd RQ
    go_wp2_with (fail)
    (with_reducible refine (H16.out _ Q7.out.ix).mono ?_)
    rintro e w8 ⟨rfl, hb8⟩
    have Q8 := Lib.hid (Q7.out.next hb8)
    clear c0 c1 c2 c3 c4 c5 c6 c7 z0 z1 hb8 Q7
    obtain ⟨-, -, -, -, -, -, -, -, d0, d1, d2, d3, d4, d5, d6, d7, -⟩ := Q8.out.all
    go_wp2_with (fail)
    (with_reducible refine (H16y.out y (4, 0) _ _ _ Q8.out.iy HNM.out HND.out HCK.out).mono ?_)
    rintro e w9 ⟨rfl, hb9⟩
    have Q9 := Lib.hid (Q8.out.next hb9)
    clear d0 d1 d2 d3 d4 d5 d6 d7 hb9 Q8
    go_wp2
    go_ret
    exact ⟨rfl, Q9.out.below⟩
  · rw [show (a : Int) % 6 = _ from hr]
    have q : W5.cell? ⟨bq, 4, none⟩ = some (.int .i64 x.cap) := HS.out.qb.p 4
    have fq : W5.frozen? ⟨bq, 4, none⟩ = false := by
      have h := HS.out.qb
      unfold IBox at h
      unfold World.frozen?; rw [h]; rfl
    obtain ⟨y, hy⟩ : ∃ y : Ins, y = { x with cap := -1 } := ⟨_, rfl⟩
    have RQ : Hid (LawBQ w x (.slice (some ⟨bb, off, none⟩) L cn) (.slice am M cm) bq y (.slice (some ⟨g, 0, none⟩) L rc) (.slice am M cm) (W5.setCell ⟨bq, 4, none⟩ (.int .i64 (-1)))) := by
      rw [hy]; exact HS.out.field HX.out rfl rfl rfl
    have HCK : Hid (checkL nameB y = [(5, 0)]) := by rw [hy]; exact spoil_cap HWI.out
    have HNM : Hid (y.name.size ≤ 100) := by rw [hy]; first | exact HNB.out | exact (show (0 : Nat) ≤ 100 from Nat.zero_le _)
    have HND : Hid (y.nodes.length ≤ 420) := by rw [hy]; show x.nodes.length ≤ 420; rw [HLe.out]; exact HLB.out
    clear hy hr hr6
    go_upto_region 28 with (fail)
    generalize W5.setCell ⟨bq, 4, none⟩ (.int .i64 (-1)) = W6 at *
    clear q fq
    obtain ⟨c0, c1, c2, c3, c4, c5, c6, c7, d0, d1, d2, d3, d4, d5, d6, d7, -⟩ := RQ.out.all
    go_wp2_with (fail)
    (with_reducible refine (H11.out y (5, 0) _ _ _ RQ.out.iy HNM.out HND.out HCK.out).mono ?_)
    rintro e w7 ⟨v7, rfl, hF, hb7⟩
    have Q7 := Lib.hid (RQ.out.next hb7)
    clear c0 c1 c2 c3 c4 c5 c6 c7 d0 d1 d2 d3 d4 d5 d6 d7
    rcases hF with ⟨h0, _⟩ | ⟨fb, fo, fc, rfl, _, _, hfd⟩
    · cases h0
    have z0 : w7.cell? ⟨fb, fo, none⟩ = some (.int .i64 5) := (hfd.2 0 _ rfl).1
    have z1 : w7.cell? ⟨fb, fo + 1, none⟩ = some (.int .i64 0) := (hfd.2 0 _ rfl).2
    obtain ⟨c0, c1, c2, c3, c4, c5, c6, c7, -⟩ := Q7.out.all
    clear hb7 hfd RQ
    go_wp2_with (fail)
    (with_reducible refine (H16.out _ Q7.out.ix).mono ?_)
    rintro e w8 ⟨rfl, hb8⟩
    have Q8 := Lib.hid (Q7.out.next hb8)
    clear c0 c1 c2 c3 c4 c5 c6 c7 z0 z1 hb8 Q7
    obtain ⟨-, -, -, -, -, -, -, -, d0, d1, d2, d3, d4, d5, d6, d7, -⟩ := Q8.out.all
    go_wp2_with (fail)
    (with_reducible refine (H16y.out y (5, 0) _ _ _ Q8.out.iy HNM.out HND.out HCK.out).mono ?_)
    rintro e w9 ⟨rfl, hb9⟩
    have Q9 := Lib.hid (Q8.out.next hb9)
    clear d0 d1 d2 d3 d4 d5 d6 d7 hb9 Q8
    go_wp2
    go_ret
    exact ⟨rfl, Q9.out.below⟩
  · rw [show (a : Int) % 6 = _ from hr]
    have q : W5.cell? ⟨bq, 5, none⟩ = some (.int .i64 x.fleet) := HS.out.qb.p 5
    have fq : W5.frozen? ⟨bq, 5, none⟩ = false := by
      have h := HS.out.qb
      unfold IBox at h
      unfold World.frozen?; rw [h]; rfl
    obtain ⟨y, hy⟩ : ∃ y : Ins, y = { x with fleet := 401 } := ⟨_, rfl⟩
    have RQ : Hid (LawBQ w x (.slice (some ⟨bb, off, none⟩) L cn) (.slice am M cm) bq y (.slice (some ⟨g, 0, none⟩) L rc) (.slice am M cm) (W5.setCell ⟨bq, 5, none⟩ (.int .i64 401))) := by
      rw [hy]; exact HS.out.field HX.out rfl rfl rfl
    have HCK : Hid (checkL nameB y = [(6, 0)]) := by rw [hy]; exact spoil_fleet HWI.out
    have HNM : Hid (y.name.size ≤ 100) := by rw [hy]; first | exact HNB.out | exact (show (0 : Nat) ≤ 100 from Nat.zero_le _)
    have HND : Hid (y.nodes.length ≤ 420) := by rw [hy]; show x.nodes.length ≤ 420; rw [HLe.out]; exact HLB.out
    clear hy hr hr6
    go_upto_region 28 with (fail)
    generalize W5.setCell ⟨bq, 5, none⟩ (.int .i64 401) = W6 at *
    clear q fq
    obtain ⟨c0, c1, c2, c3, c4, c5, c6, c7, d0, d1, d2, d3, d4, d5, d6, d7, -⟩ := RQ.out.all
    go_wp2_with (fail)
    (with_reducible refine (H11.out y (6, 0) _ _ _ RQ.out.iy HNM.out HND.out HCK.out).mono ?_)
    rintro e w7 ⟨v7, rfl, hF, hb7⟩
    have Q7 := Lib.hid (RQ.out.next hb7)
    clear c0 c1 c2 c3 c4 c5 c6 c7 d0 d1 d2 d3 d4 d5 d6 d7
    rcases hF with ⟨h0, _⟩ | ⟨fb, fo, fc, rfl, _, _, hfd⟩
    · cases h0
    have z0 : w7.cell? ⟨fb, fo, none⟩ = some (.int .i64 6) := (hfd.2 0 _ rfl).1
    have z1 : w7.cell? ⟨fb, fo + 1, none⟩ = some (.int .i64 0) := (hfd.2 0 _ rfl).2
    obtain ⟨c0, c1, c2, c3, c4, c5, c6, c7, -⟩ := Q7.out.all
    clear hb7 hfd RQ
    go_wp2_with (fail)
    (with_reducible refine (H16.out _ Q7.out.ix).mono ?_)
    rintro e w8 ⟨rfl, hb8⟩
    have Q8 := Lib.hid (Q7.out.next hb8)
    clear c0 c1 c2 c3 c4 c5 c6 c7 z0 z1 hb8 Q7
    obtain ⟨-, -, -, -, -, -, -, -, d0, d1, d2, d3, d4, d5, d6, d7, -⟩ := Q8.out.all
    go_wp2_with (fail)
    (with_reducible refine (H16y.out y (6, 0) _ _ _ Q8.out.iy HNM.out HND.out HCK.out).mono ?_)
    rintro e w9 ⟨rfl, hb9⟩
    have Q9 := Lib.hid (Q8.out.next hb9)
    clear d0 d1 d2 d3 d4 d5 d6 d7 hb9 Q8
    go_wp2
    go_ret
    exact ⟨rfl, Q9.out.below⟩
  · rw [show (a : Int) % 6 = _ from hr]
    have q6 : W5.cell? ⟨bq, 6, none⟩ = some (.slice (some ⟨g, 0, none⟩) L rc) := HS.out.qb.p 6
    have q : W5.cell? ⟨g, i * 7, none⟩ = some (.int .i64 (at' x i).x) := (World.ownsRow.cellAt HROW.out (i * 7) (by omega)).trans (by rw [show i * 7 = i * 7 + 0 from rfl, flat_get (f := ndC) (s := 7) (fun _ => rfl) HAT.out (by omega)]; rfl)
    have fq := frow (i * 7)
    obtain ⟨y, hy⟩ : ∃ y : Ins, y = { x with nodes := x.nodes.set i (farNd (at' x i)) } := ⟨_, rfl⟩
    have RQ : Hid (LawBQ w x (.slice (some ⟨bb, off, none⟩) L cn) (.slice am M cm) bq y (.slice (some ⟨g, 0, none⟩) L rc) (.slice am M cm) (W5.setCell ⟨g, i * 7, none⟩ (.int .i64 100000001))) := by
      rw [hy]; exact HS.out.node HX.out HLe.out m1 (by rw [List.length_set]; exact HLe.out) (flat_set0 HAT.out)
    have HCK : Hid (checkL nameB y = [(9, i)]) := by rw [hy]; exact spoil_coord HWI.out (by rw [HLe.out]; exact hil)
    have HNM : Hid (y.name.size ≤ 100) := by rw [hy]; exact HNB.out
    have HND : Hid (y.nodes.length ≤ 420) := by rw [hy]; show (x.nodes.set i _).length ≤ 420; rw [List.length_set, HLe.out]; exact HLB.out
    clear hy hr hr6
    go_upto_region 28 with (fail)
    generalize W5.setCell ⟨g, i * 7, none⟩ (.int .i64 100000001) = W6 at *
    clear q fq q6
    obtain ⟨c0, c1, c2, c3, c4, c5, c6, c7, d0, d1, d2, d3, d4, d5, d6, d7, -⟩ := RQ.out.all
    go_wp2_with (fail)
    (with_reducible refine (H11.out y (9, i) _ _ _ RQ.out.iy HNM.out HND.out HCK.out).mono ?_)
    rintro e w7 ⟨v7, rfl, hF, hb7⟩
    have Q7 := Lib.hid (RQ.out.next hb7)
    clear c0 c1 c2 c3 c4 c5 c6 c7 d0 d1 d2 d3 d4 d5 d6 d7
    rcases hF with ⟨h0, _⟩ | ⟨fb, fo, fc, rfl, _, _, hfd⟩
    · cases h0
    have z0 : w7.cell? ⟨fb, fo, none⟩ = some (.int .i64 9) := (hfd.2 0 _ rfl).1
    have z1 : w7.cell? ⟨fb, fo + 1, none⟩ = some (.int .i64 (i : Int)) := (hfd.2 0 _ rfl).2
    obtain ⟨c0, c1, c2, c3, c4, c5, c6, c7, -⟩ := Q7.out.all
    clear hb7 hfd RQ
    go_wp2_with (fail)
    (with_reducible refine (H16.out _ Q7.out.ix).mono ?_)
    rintro e w8 ⟨rfl, hb8⟩
    have Q8 := Lib.hid (Q7.out.next hb8)
    clear c0 c1 c2 c3 c4 c5 c6 c7 z0 z1 hb8 Q7
    obtain ⟨-, -, -, -, -, -, -, -, d0, d1, d2, d3, d4, d5, d6, d7, -⟩ := Q8.out.all
    go_wp2_with (fail)
    (with_reducible refine (H16y.out y (9, i) _ _ _ Q8.out.iy HNM.out HND.out HCK.out).mono ?_)
    rintro e w9 ⟨rfl, hb9⟩
    have Q9 := Lib.hid (Q8.out.next hb9)
    clear d0 d1 d2 d3 d4 d5 d6 d7 hb9 Q8
    go_wp2
    go_ret
    exact ⟨rfl, Q9.out.below⟩
  · rw [show (a : Int) % 6 = _ from hr]
    have q6 : W5.cell? ⟨bq, 6, none⟩ = some (.slice (some ⟨g, 0, none⟩) L rc) := HS.out.qb.p 6
    have q : W5.cell? ⟨g, i * 7 + 5, none⟩ = some (.int .i64 (at' x i).service) := (World.ownsRow.cellAt HROW.out (i * 7 + 5) (by omega)).trans (by rw [show i * 7 + 5 = i * 7 + 5 from rfl, flat_get (f := ndC) (s := 7) (fun _ => rfl) HAT.out (by omega)]; rfl)
    have fq := frow (i * 7 + 5)
    obtain ⟨y, hy⟩ : ∃ y : Ins, y = { x with nodes := x.nodes.set i (slowNd (at' x i)) } := ⟨_, rfl⟩
    have RQ : Hid (LawBQ w x (.slice (some ⟨bb, off, none⟩) L cn) (.slice am M cm) bq y (.slice (some ⟨g, 0, none⟩) L rc) (.slice am M cm) (W5.setCell ⟨g, i * 7 + 5, none⟩ (.int .i64 (-1)))) := by
      rw [hy]; exact HS.out.node HX.out HLe.out m1 (by rw [List.length_set]; exact HLe.out) (flat_set5 HAT.out)
    have HCK : Hid (checkL nameB y = [(12, i)]) := by rw [hy]; exact spoil_service HWI.out (by rw [HLe.out]; exact hil)
    have HNM : Hid (y.name.size ≤ 100) := by rw [hy]; exact HNB.out
    have HND : Hid (y.nodes.length ≤ 420) := by rw [hy]; show (x.nodes.set i _).length ≤ 420; rw [List.length_set, HLe.out]; exact HLB.out
    clear hy hr hr6
    go_upto_region 28 with (fail)
    generalize W5.setCell ⟨g, i * 7 + 5, none⟩ (.int .i64 (-1)) = W6 at *
    clear q fq q6
    obtain ⟨c0, c1, c2, c3, c4, c5, c6, c7, d0, d1, d2, d3, d4, d5, d6, d7, -⟩ := RQ.out.all
    go_wp2_with (fail)
    (with_reducible refine (H11.out y (12, i) _ _ _ RQ.out.iy HNM.out HND.out HCK.out).mono ?_)
    rintro e w7 ⟨v7, rfl, hF, hb7⟩
    have Q7 := Lib.hid (RQ.out.next hb7)
    clear c0 c1 c2 c3 c4 c5 c6 c7 d0 d1 d2 d3 d4 d5 d6 d7
    rcases hF with ⟨h0, _⟩ | ⟨fb, fo, fc, rfl, _, _, hfd⟩
    · cases h0
    have z0 : w7.cell? ⟨fb, fo, none⟩ = some (.int .i64 12) := (hfd.2 0 _ rfl).1
    have z1 : w7.cell? ⟨fb, fo + 1, none⟩ = some (.int .i64 (i : Int)) := (hfd.2 0 _ rfl).2
    obtain ⟨c0, c1, c2, c3, c4, c5, c6, c7, -⟩ := Q7.out.all
    clear hb7 hfd RQ
    go_wp2_with (fail)
    (with_reducible refine (H16.out _ Q7.out.ix).mono ?_)
    rintro e w8 ⟨rfl, hb8⟩
    have Q8 := Lib.hid (Q7.out.next hb8)
    clear c0 c1 c2 c3 c4 c5 c6 c7 z0 z1 hb8 Q7
    obtain ⟨-, -, -, -, -, -, -, -, d0, d1, d2, d3, d4, d5, d6, d7, -⟩ := Q8.out.all
    go_wp2_with (fail)
    (with_reducible refine (H16y.out y (12, i) _ _ _ Q8.out.iy HNM.out HND.out HCK.out).mono ?_)
    rintro e w9 ⟨rfl, hb9⟩
    have Q9 := Lib.hid (Q8.out.next hb9)
    clear d0 d1 d2 d3 d4 d5 d6 d7 hb9 Q8
    go_wp2
    go_ret
    exact ⟨rfl, Q9.out.below⟩
  · omega
theorem Try.CanonSpoilt_all (x : Ins) (vn vm : Value) (a : Int) (wa : (Lit.int .u8 a).wf = true) (b : Int) (wb : (Lit.int .u8 b).wf = true) (w : World) (hx : HasIns w vn vm x) (_ : ∀ d ∈ x.nodes, In64 d) :
    Calls Try.prog 7 #[insV x vn vm, .int .u8 a, .int .u8 b] w fun e w' => e = .returned (.bool true) ∧ Below w.heap.size w w' := by
  cases h1 : longB x with
  | true => exact Try.CanonSpoilt_long x vn vm a b w hx (.inl h1)
  | false =>
    cases h2 : wellB nameB x with
    | false => exact Try.CanonSpoilt_long x vn vm a b w hx (.inr ⟨h1, h2⟩)
    | true =>
      simp only [Lit.wf, Bool.and_eq_true, decide_eq_true_eq] at wa wb
      have wa1 : 0 ≤ a ∧ a ≤ 255 := wa
      have wb1 : 0 ≤ b ∧ b ≤ 255 := wb
      obtain ⟨A, rfl⟩ : ∃ A : Nat, a = (A : Int) := ⟨a.toNat, by omega⟩
      obtain ⟨B, rfl⟩ : ∃ B : Nat, b = (B : Int) := ⟨b.toNat, by omega⟩
      exact Try.CanonSpoilt_calls x vn vm A B w hx h1 h2 (by omega) (by omega)
end Go.Proofs
