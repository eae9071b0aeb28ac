/- The law CanonNorms of layer 8, as a contract: it answers true at every two instances. Conditions: points in 64 bits. -/
import Derived.Test.YtogpnkahgkidpaaCanonLaw
namespace Go.Proofs
open Go.RowKit Go.Shelf Go.Canon
attribute [local go_sem] Oper.semAt_some

/-- What stands in a law of two instances. -/
structure LawB2 (w : World) (x : Ins) (un um : Value) (y : Ins) (vn vm : Value) (W : World) : Prop where
  bx : IBox W w.heap.size x un um
  bq : IBox W (w.heap.size + 1) y vn vm
  ix : HasIns W un um x
  iy : HasIns W vn vm y
  below : Below w.heap.size w W
theorem LawB2.new {w : World} {x y : Ins} {un um vn vm : Value} (hx : HasIns w un um x) (hy : HasIns w vn vm y) : LawB2 w x un um y vn vm ((w.alloc (.cells #[.string x.name, .int .i64 x.kind, .int .i64 x.metric, .int .i64 x.scale, .int .i64 x.cap, .int .i64 x.fleet, un, um] 25)).alloc (.cells #[.string y.name, .int .i64 y.kind, .int .i64 y.metric, .int .i64 y.scale, .int .i64 y.cap, .int .i64 y.fleet, vn, vm] 25)) := by
  have hs : (w.alloc (.cells #[.string x.name, .int .i64 x.kind, .int .i64 x.metric, .int .i64 x.scale, .int .i64 x.cap, .int .i64 x.fleet, un, um] 25)).heap.size = w.heap.size + 1 := by show (w.heap.push _).size = _; simp
  have h2 := IBox.new (w.alloc (.cells #[.string x.name, .int .i64 x.kind, .int .i64 x.metric, .int .i64 x.scale, .int .i64 x.cap, .int .i64 x.fleet, un, um] 25)) y vn vm
  rw [hs] at h2
  exact ⟨(IBox.new w x un um).next (below_box _ _), h2, hx.next (below_two _ _ _), hy.next (below_two _ _ _), below_two _ _ _⟩
theorem LawB2.next {w W W' : World} {x y : Ins} {un um vn vm : Value} (h : LawB2 w x un um y vn vm W) (hb : Below W.heap.size W W') : LawB2 w x un um y vn vm W' :=
  ⟨h.bx.next hb, h.bq.next hb, h.ix.next hb, h.iy.next hb, h.below.trans (hb.mono h.below.size)⟩
theorem LawB2.drew {w W : World} {x y : Ins} {un um vn vm : Value} (h : LawB2 w x un um y vn vm W) : LawB2 w x un um y vn vm W.drew := h.next (bw_drew (Below.refl _ _))
def LawS2 (w : World) (x : Ins) (un um : Value) (y : Ins) (vn vm : Value) (W : World) : Prop := W.cell? ⟨w.heap.size, 0, none⟩ = some (.string x.name) ∧ W.cell? ⟨w.heap.size, 1, none⟩ = some (.int .i64 x.kind) ∧ W.cell? ⟨w.heap.size, 2, none⟩ = some (.int .i64 x.metric) ∧ W.cell? ⟨w.heap.size, 3, none⟩ = some (.int .i64 x.scale) ∧ W.cell? ⟨w.heap.size, 4, none⟩ = some (.int .i64 x.cap) ∧ W.cell? ⟨w.heap.size, 5, none⟩ = some (.int .i64 x.fleet) ∧ W.cell? ⟨w.heap.size, 6, none⟩ = some (un) ∧ W.cell? ⟨w.heap.size, 7, none⟩ = some (um) ∧ W.cell? ⟨w.heap.size + 1, 0, none⟩ = some (.string y.name) ∧ W.cell? ⟨w.heap.size + 1, 1, none⟩ = some (.int .i64 y.kind) ∧ W.cell? ⟨w.heap.size + 1, 2, none⟩ = some (.int .i64 y.metric) ∧ W.cell? ⟨w.heap.size + 1, 3, none⟩ = some (.int .i64 y.scale) ∧ W.cell? ⟨w.heap.size + 1, 4, none⟩ = some (.int .i64 y.cap) ∧ W.cell? ⟨w.heap.size + 1, 5, none⟩ = some (.int .i64 y.fleet) ∧ W.cell? ⟨w.heap.size + 1, 6, none⟩ = some (vn) ∧ W.cell? ⟨w.heap.size + 1, 7, none⟩ = some (vm) ∧ LawB2 w x un um y vn vm W
theorem LawB2.all {w W : World} {x y : Ins} {un um vn vm : Value} (h : LawB2 w x un um y vn vm W) : LawS2 w x un um y vn vm W :=
  ⟨h.bx.p 0, h.bx.p 1, h.bx.p 2, h.bx.p 3, h.bx.p 4, h.bx.p 5, h.bx.p 6, h.bx.p 7, h.bq.p 0, h.bq.p 1, h.bq.p 2, h.bq.p 3, h.bq.p 4, h.bq.p 5, h.bq.p 6, h.bq.p 7, h⟩
set_option maxRecDepth 100000 in
set_option maxHeartbeats 4000000 in
theorem Try.CanonNorms_long (x y : Ins) (un um vn vm : Value) (w : World) (hx : HasIns w un um x) (hy : HasIns w vn vm y) (h : longB x = true ∨ longB x = false ∧ longB y = true) :
    Calls Try.prog 4 #[insV x un um, insV y vn vm] w fun e w' => e = .returned (.bool true) ∧ Below w.heap.size w w' := by
  have HLX := Lib.hid (fun W h => Try.llong_calls x un um W h)
  have HLY := Lib.hid (fun W h => Try.llong_calls y vn vm W h)
  have HSH := Lib.hid (fun W => Try.shown_calls W)
  have HB := Lib.hid (LawB2.new hx hy)
  obtain ⟨an, cn, rfl, _⟩ := hx.nodes.dat
  obtain ⟨am, cm, rfl, _⟩ := hx.matrix.dat
  obtain ⟨bn, dn, rfl, _⟩ := hy.nodes.dat
  obtain ⟨bm, dm, rfl, _⟩ := hy.matrix.dat
  unfold insV at *
  clear hx hy
  rcases h with hl | ⟨hl, hl2⟩
  · rw [hl] at HLX
    clear hl
    generalize x.nodes.length = L at *
    generalize x.matrix.length = M at *
    generalize y.nodes.length = L2 at *
    generalize y.matrix.length = M2 at *
    go_enter Try.func4, Try.ntmps4
    go_wp2_with (fail)
    (with_reducible refine (HLX.out _ HB.out.ix).mono ?_)
    rintro e w1 ⟨rfl, hb1⟩
    have B1 := Lib.hid (HB.out.next hb1)
    clear hb1 HLX HB
    go_wp2_with (fail)
    (with_reducible refine (HSH.out _).mono ?_)
    rintro e w2 ⟨rfl, hb2⟩
    have B2 := Lib.hid (B1.out.next hb2)
    go_wp2
    go_ret
    exact ⟨rfl, B2.out.below⟩
  · rw [hl] at HLX
    rw [hl2] at HLY
    clear hl hl2
    generalize x.nodes.length = L at *
    generalize x.matrix.length = M at *
    generalize y.nodes.length = L2 at *
    generalize y.matrix.length = M2 at *
    go_enter Try.func4, Try.ntmps4
    go_wp2_with (fail)
    (with_reducible refine (HLX.out _ HB.out.ix).mono ?_)
    rintro e w1 ⟨rfl, hb1⟩
    have B1 := Lib.hid (HB.out.next hb1)
    obtain ⟨-, -, -, -, -, -, -, -, q0, q1, q2, q3, q4, q5, q6, q7, -⟩ := B1.out.all
    clear hb1 HLX HB
    go_wp2_with (fail)
    (with_reducible refine (HLY.out _ B1.out.iy).mono ?_)
    rintro e w2 ⟨rfl, hb2⟩
    have B2 := Lib.hid (B1.out.next hb2)
    clear hb2 HLY B1 q0 q1 q2 q3 q4 q5 q6 q7
    go_wp2_with (fail)
    (with_reducible refine (HSH.out _).mono ?_)
    rintro e w3 ⟨rfl, hb3⟩
    have B3 := Lib.hid (B2.out.next hb3)
    go_wp2
    go_ret
    exact ⟨rfl, B3.out.below⟩
set_option maxRecDepth 100000 in
set_option maxHeartbeats 8000000 in
theorem Try.CanonNorms_calls (x y : Ins) (un um vn vm : Value) (w : World) (hx : HasIns w un um x) (hy : HasIns w vn vm y) (g64 : ∀ d ∈ x.nodes, In64 d) (hl : longB x = false) (hl2 : longB y = false) :
    Calls Try.prog 4 #[insV x un um, insV y vn vm] w fun e w' => e = .returned (.bool true) ∧ Below w.heap.size w w' := by
  have HLX := Lib.hid (fun W h => Try.llong_calls x un um W h)
  have HLY := Lib.hid (fun W h => Try.llong_calls y vn vm W h)
  rw [hl] at HLX
  rw [hl2] at HLY
  have HSH := Lib.hid (fun W => Try.shown_calls W)
  have HB := Lib.hid (LawB2.new hx hy)
  obtain ⟨b1, b2, b3⟩ := long_no hl
  obtain ⟨e1, e2, e3⟩ := long_no hl2
  have H18 := Lib.hid (fun W h => Try.norm_calls x un um W h (by omega) (by omega) g64)
  have H19 := Lib.hid (fun v W h => Try.rnorm_calls x v um W h (by omega) (by omega) g64)
  have H15x := Lib.hid (fun W h => Try.L15 x un um W h b1)
  have H15y := Lib.hid (fun W h => Try.L15 y vn vm W h e1)
  have H15n := Lib.hid (fun u v W h => Try.L15 (norm x) u v W h (by rw [norm_length]; exact b1))
  have H20 := Lib.hid (fun W h1 h2 => Try.same_calls x y un um vn vm W h1 h2 (by omega) (by omega) (by omega))
  have hnm : (norm x).matrix.length = x.matrix.length := by rw [(norm_keeps x).2.2.2.2.2]
  have H17n := Lib.hid (fun u1 u2 v1 v2 W h1 h2 => Try.rsame_calls (norm x) (norm x) u1 u2 v1 v2 W h1 h2 (by rw [norm_length]; omega) (by rw [hnm]; omega))
  have H17 := Lib.hid (fun u v W h1 h2 => Try.rsame_calls x y u um v vm W h1 h2 (by omega) (by omega))
  rw [decide_eq_true rfl] at H17n
  generalize decide (x = y) = r at *
  obtain ⟨xn, hxn⟩ : ∃ xn, norm x = xn := ⟨_, rfl⟩
  rw [hxn] at H18 H19 H15n H17n
  obtain ⟨an, cn, rfl, _⟩ := hx.nodes.dat
  obtain ⟨am, cm, rfl, _⟩ := hx.matrix.dat
  obtain ⟨bn, dn, rfl, _⟩ := hy.nodes.dat
  obtain ⟨bm, dm, rfl, _⟩ := hy.matrix.dat
  unfold insV at *
  clear hx hy hl hl2 g64 hnm hxn b1 b2 b3 e1 e2 e3
  generalize x.nodes.length = L at *
  generalize x.matrix.length = M at *
  generalize y.nodes.length = L2 at *
  generalize y.matrix.length = M2 at *
  go_enter Try.func4, Try.ntmps4
  go_wp2_with (fail)
  (with_reducible refine (HLX.out _ HB.out.ix).mono ?_)
  rintro e w1 ⟨rfl, hb1⟩
  have B1 := Lib.hid (HB.out.next hb1)
  obtain ⟨-, -, -, -, -, -, -, -, q0, q1, q2, q3, q4, q5, q6, q7, -⟩ := B1.out.all
  clear hb1 HLX HB
  go_wp2_with (fail)
  (with_reducible refine (HLY.out _ B1.out.iy).mono ?_)
  rintro e w2 ⟨rfl, hb2⟩
  have B2 := Lib.hid (B1.out.next hb2)
  clear hb2 HLY B1 q0 q1 q2 q3 q4 q5 q6 q7
  go_wp2_with (fail)
  (with_reducible refine (HSH.out _).mono ?_)
  rintro e w3 ⟨rfl, hb3⟩
  have B3 := Lib.hid (B2.out.next hb3)
  clear hb3 HSH B2
  go_wp2
  refine wp_region_held_drew (S := LawS2 w x (.slice an L cn) (.slice am M cm) y (.slice bn L2 dn) (.slice bm M2 dm)) (by kernel_rfl) B3.out.drew.all (fun hHeld0 => ?_)
  have B4 := B3.out.drew
  clear hHeld0
  generalize w3.drew = W4 at *
  refine wpAnyH_take (i := 0) (v := ?_) rfl (by kernel_rfl) (by kernel_rfl) (by kernel_rfl) (fun _ _ _ h => h) (Or.inl ⟨by kernel_rfl, ?_⟩) B4.all ?_
  rotate_left
  · (intro w0 hSw; (try dsimp only at hSw); obtain ⟨c0, c1, c2, c3, c4, c5, c6, c7, d0, d1, d2, d3, d4, d5, d6, d7, hLB⟩ := hSw; go_simp; try with_reducible rfl)
  try dsimp only [List.getElem_toArray, List.getElem_cons_succ, List.getElem_cons_zero, Act.put]
  try simp only [List.setIfInBounds_toArray, List.set_cons_zero, List.set_cons_succ]
  refine wpAnyH_take (i := 3) (v := ?_) rfl (by kernel_rfl) (by kernel_rfl) (by kernel_rfl) (fun _ _ _ h => h) (Or.inl ⟨by kernel_rfl, ?_⟩) B4.all ?_
  rotate_left
  · (intro w0 hSw; (try dsimp only at hSw); obtain ⟨c0, c1, c2, c3, c4, c5, c6, c7, d0, d1, d2, d3, d4, d5, d6, d7, hLB⟩ := hSw; go_simp; try with_reducible rfl)
  try dsimp only [List.getElem_toArray, List.getElem_cons_succ, List.getElem_cons_zero, Act.put]
  try simp only [List.setIfInBounds_toArray, List.set_cons_zero, List.set_cons_succ]
  refine wpAnyH_ready (rs := [1]) (by kernel_rfl) (by simp) (AllReadyH.cons rfl (fun K hK => ?_) AllReadyH.nil)
  go_simp
  go_at_call 18
  (with_reducible refine (H18.out _ B4.ix).mono ?_)
  rintro e W1 ⟨u1, u2, rfl, In, h1⟩
  have B1 := B4.next h1
  obtain ⟨n1, k1, rfl, _⟩ := In.nodes.dat
  obtain ⟨n2, k2, rfl, _⟩ := In.matrix.dat
  refine hK.out _ _ B1.all (fun hHeld1 => ?_)
  clear hK K hHeld1
  try dsimp only [List.getElem_toArray, List.getElem_cons_succ, List.getElem_cons_zero, Act.put]
  try simp only [List.setIfInBounds_toArray, List.set_cons_zero, List.set_cons_succ]
  refine wpAnyH_ready (rs := [2]) (by kernel_rfl) (by simp) (AllReadyH.cons rfl (fun K hK => ?_) AllReadyH.nil)
  go_simp
  go_at_call 15
  (with_reducible refine (H15n.out _ _ _ In).mono ?_)
  rintro e W2 ⟨u3, rfl, Im, h2⟩
  have B2 := B1.next h2
  replace In := HasIns.next In h2
  obtain ⟨n3, k3, rfl, _⟩ := Im.nodes.dat
  refine hK.out _ _ B2.all (fun hHeld2 => ?_)
  clear hK K hHeld2
  try dsimp only [List.getElem_toArray, List.getElem_cons_succ, List.getElem_cons_zero, Act.put]
  try simp only [List.setIfInBounds_toArray, List.set_cons_zero, List.set_cons_succ]
  refine wpAnyH_ready (rs := [4]) (by kernel_rfl) (by simp) (AllReadyH.cons rfl (fun K hK => ?_) AllReadyH.nil)
  go_simp
  go_at_call 15
  (with_reducible refine (H15x.out _ B2.ix).mono ?_)
  rintro e W4 ⟨u4, rfl, Ix, h4⟩
  have B4 := B2.next h4
  replace In := HasIns.next In h4
  replace Im := HasIns.next Im h4
  obtain ⟨n4, k4, rfl, _⟩ := Ix.nodes.dat
  refine hK.out _ _ B4.all (fun hHeld4 => ?_)
  clear hK K hHeld4
  try dsimp only [List.getElem_toArray, List.getElem_cons_succ, List.getElem_cons_zero, Act.put]
  try simp only [List.setIfInBounds_toArray, List.set_cons_zero, List.set_cons_succ]
  refine wpAnyH_ready (rs := [5]) (by kernel_rfl) (by simp) (AllReadyH.cons rfl (fun K hK => ?_) AllReadyH.nil)
  go_simp
  go_at_call 19
  (with_reducible refine (H19.out _ _ Ix).mono ?_)
  rintro e W5 ⟨u5, u6, rfl, Iz, h5⟩
  have B5 := B4.next h5
  replace In := HasIns.next In h5
  replace Im := HasIns.next Im h5
  replace Ix := HasIns.next Ix h5
  obtain ⟨n5, k5, rfl, _⟩ := Iz.nodes.dat
  obtain ⟨n6, k6, rfl, _⟩ := Iz.matrix.dat
  refine hK.out _ _ B5.all (fun hHeld5 => ?_)
  clear hK K hHeld5
  try dsimp only [List.getElem_toArray, List.getElem_cons_succ, List.getElem_cons_zero, Act.put]
  try simp only [List.setIfInBounds_toArray, List.set_cons_zero, List.set_cons_succ]
  refine wpAnyH_ready (rs := [6]) (by kernel_rfl) (by simp) (AllReadyH.cons rfl (fun K hK => ?_) AllReadyH.nil)
  go_simp
  go_at_call 17
  (with_reducible refine (H17n.out _ _ _ _ _ Im Iz).mono ?_)
  rintro e W6 ⟨rfl, h6⟩
  have B6 := B5.next h6
  replace In := HasIns.next In h6
  replace Im := HasIns.next Im h6
  replace Ix := HasIns.next Ix h6
  replace Iz := HasIns.next Iz h6
  refine hK.out _ _ B6.all (fun hHeld6 => ?_)
  clear hK K hHeld6
  try dsimp only [List.getElem_toArray, List.getElem_cons_succ, List.getElem_cons_zero, Act.put]
  try simp only [List.setIfInBounds_toArray, List.set_cons_zero, List.set_cons_succ]
  refine wpAnyH_take (i := 7) (v := ?_) rfl (by kernel_rfl) (by kernel_rfl) (by kernel_rfl) (fun _ _ _ h => h) (Or.inl ⟨by kernel_rfl, ?_⟩) B6.all ?_
  rotate_left
  · (intro w0 hSw; (try dsimp only at hSw); obtain ⟨c0, c1, c2, c3, c4, c5, c6, c7, d0, d1, d2, d3, d4, d5, d6, d7, hLB⟩ := hSw; go_simp; try with_reducible rfl)
  try dsimp only [List.getElem_toArray, List.getElem_cons_succ, List.getElem_cons_zero, Act.put]
  try simp only [List.setIfInBounds_toArray, List.set_cons_zero, List.set_cons_succ]
  refine wpAnyH_take (i := 8) (v := ?_) rfl (by kernel_rfl) (by kernel_rfl) (by kernel_rfl) (fun _ _ _ h => h) (Or.inl ⟨by kernel_rfl, ?_⟩) B6.all ?_
  rotate_left
  · (intro w0 hSw; (try dsimp only at hSw); obtain ⟨c0, c1, c2, c3, c4, c5, c6, c7, d0, d1, d2, d3, d4, d5, d6, d7, hLB⟩ := hSw; go_simp; try with_reducible rfl)
  try dsimp only [List.getElem_toArray, List.getElem_cons_succ, List.getElem_cons_zero, Act.put]
  try simp only [List.setIfInBounds_toArray, List.set_cons_zero, List.set_cons_succ]
  refine wpAnyH_take (i := 9) (v := ?_) rfl (by kernel_rfl) (by kernel_rfl) (by kernel_rfl) (fun _ _ _ h => h) (Or.inl ⟨by kernel_rfl, ?_⟩) B6.all ?_
  rotate_left
  · (intro w0 hSw; (try dsimp only at hSw); obtain ⟨c0, c1, c2, c3, c4, c5, c6, c7, d0, d1, d2, d3, d4, d5, d6, d7, hLB⟩ := hSw; go_simp; try with_reducible rfl)
  try dsimp only [List.getElem_toArray, List.getElem_cons_succ, List.getElem_cons_zero, Act.put]
  try simp only [List.setIfInBounds_toArray, List.set_cons_zero, List.set_cons_succ]
  refine wpAnyH_take (i := 11) (v := ?_) rfl (by kernel_rfl) (by kernel_rfl) (by kernel_rfl) (fun _ _ _ h => h) (Or.inl ⟨by kernel_rfl, ?_⟩) B6.all ?_
  rotate_left
  · (intro w0 hSw; (try dsimp only at hSw); obtain ⟨c0, c1, c2, c3, c4, c5, c6, c7, d0, d1, d2, d3, d4, d5, d6, d7, hLB⟩ := hSw; go_simp; try with_reducible rfl)
  try dsimp only [List.getElem_toArray, List.getElem_cons_succ, List.getElem_cons_zero, Act.put]
  try simp only [List.setIfInBounds_toArray, List.set_cons_zero, List.set_cons_succ]
  refine wpAnyH_take (i := 13) (v := ?_) rfl (by kernel_rfl) (by kernel_rfl) (by kernel_rfl) (fun _ _ _ h => h) (Or.inl ⟨by kernel_rfl, ?_⟩) B6.all ?_
  rotate_left
  · (intro w0 hSw; (try dsimp only at hSw); obtain ⟨c0, c1, c2, c3, c4, c5, c6, c7, d0, d1, d2, d3, d4, d5, d6, d7, hLB⟩ := hSw; go_simp; try with_reducible rfl)
  try dsimp only [List.getElem_toArray, List.getElem_cons_succ, List.getElem_cons_zero, Act.put]
  try simp only [List.setIfInBounds_toArray, List.set_cons_zero, List.set_cons_succ]
  refine wpAnyH_ready (rs := [10]) (by kernel_rfl) (by simp) (AllReadyH.cons rfl (fun K hK => ?_) AllReadyH.nil)
  go_simp
  go_at_call 20
  (with_reducible refine (H20.out _ B6.ix B6.iy).mono ?_)
  rintro e W10 ⟨rfl, h10⟩
  have B10 := B6.next h10
  replace In := HasIns.next In h10
  replace Im := HasIns.next Im h10
  replace Ix := HasIns.next Ix h10
  replace Iz := HasIns.next Iz h10
  refine hK.out _ _ B10.all (fun hHeld10 => ?_)
  clear hK K hHeld10
  try dsimp only [List.getElem_toArray, List.getElem_cons_succ, List.getElem_cons_zero, Act.put]
  try simp only [List.setIfInBounds_toArray, List.set_cons_zero, List.set_cons_succ]
  refine wpAnyH_ready (rs := [12]) (by kernel_rfl) (by simp) (AllReadyH.cons rfl (fun K hK => ?_) AllReadyH.nil)
  go_simp
  go_at_call 15
  (with_reducible refine (H15x.out _ B10.ix).mono ?_)
  rintro e W12 ⟨u7, rfl, Ip, h12⟩
  have B12 := B10.next h12
  replace In := HasIns.next In h12
  replace Im := HasIns.next Im h12
  replace Ix := HasIns.next Ix h12
  replace Iz := HasIns.next Iz h12
  obtain ⟨n7, k7, rfl, _⟩ := Ip.nodes.dat
  refine hK.out _ _ B12.all (fun hHeld12 => ?_)
  clear hK K hHeld12
  try dsimp only [List.getElem_toArray, List.getElem_cons_succ, List.getElem_cons_zero, Act.put]
  try simp only [List.setIfInBounds_toArray, List.set_cons_zero, List.set_cons_succ]
  refine wpAnyH_ready (rs := [14]) (by kernel_rfl) (by simp) (AllReadyH.cons rfl (fun K hK => ?_) AllReadyH.nil)
  go_simp
  go_at_call 15
  (with_reducible refine (H15y.out _ B12.iy).mono ?_)
  rintro e W14 ⟨u8, rfl, Iq, h14⟩
  have B14 := B12.next h14
  replace In := HasIns.next In h14
  replace Im := HasIns.next Im h14
  replace Ix := HasIns.next Ix h14
  replace Iz := HasIns.next Iz h14
  replace Ip := HasIns.next Ip h14
  obtain ⟨n8, k8, rfl, _⟩ := Iq.nodes.dat
  refine hK.out _ _ B14.all (fun hHeld14 => ?_)
  clear hK K hHeld14
  try dsimp only [List.getElem_toArray, List.getElem_cons_succ, List.getElem_cons_zero, Act.put]
  try simp only [List.setIfInBounds_toArray, List.set_cons_zero, List.set_cons_succ]
  refine wpAnyH_ready (rs := [15]) (by kernel_rfl) (by simp) (AllReadyH.cons rfl (fun K hK => ?_) AllReadyH.nil)
  go_simp
  go_at_call 17
  (with_reducible refine (H17.out _ _ _ Ip Iq).mono ?_)
  rintro e W15 ⟨rfl, h15⟩
  have B15 := B14.next h15
  replace In := HasIns.next In h15
  replace Im := HasIns.next Im h15
  replace Ix := HasIns.next Ix h15
  replace Iz := HasIns.next Iz h15
  replace Ip := HasIns.next Ip h15
  replace Iq := HasIns.next Iq h15
  refine hK.out _ _ B15.all (fun hHeld15 => ?_)
  clear hK K hHeld15
  try dsimp only [List.getElem_toArray, List.getElem_cons_succ, List.getElem_cons_zero, Act.put]
  try simp only [List.setIfInBounds_toArray, List.set_cons_zero, List.set_cons_succ]
  refine wpAnyH_take (i := 16) (v := .bool true) rfl (by kernel_rfl) (by kernel_rfl) (by kernel_rfl) (fun _ _ _ h => h) (Or.inl ⟨by kernel_rfl, ?_⟩) B15.all ?_
  · (intro w0 hSw; (try dsimp only at hSw); obtain ⟨c0, c1, c2, c3, c4, c5, c6, c7, d0, d1, d2, d3, d4, d5, d6, d7, hLB⟩ := hSw; go_simp; try rfl)
  try dsimp only [List.getElem_toArray, List.getElem_cons_succ, List.getElem_cons_zero, Act.put]
  try simp only [List.setIfInBounds_toArray, List.set_cons_zero, List.set_cons_succ]
  refine wpAnyH_take (i := 17) (v := ?_) rfl (by kernel_rfl) (by kernel_rfl) (by kernel_rfl) (fun _ _ _ h => h) (Or.inl ⟨by kernel_rfl, ?_⟩) B15.all ?_
  rotate_left
  · (intro w0 hSw; (try dsimp only at hSw); obtain ⟨c0, c1, c2, c3, c4, c5, c6, c7, d0, d1, d2, d3, d4, d5, d6, d7, hLB⟩ := hSw; go_simp; try with_reducible rfl)
  try dsimp only [List.getElem_toArray, List.getElem_cons_succ, List.getElem_cons_zero, Act.put]
  try simp only [List.setIfInBounds_toArray, List.set_cons_zero, List.set_cons_succ]
  refine wpAnyH_take (i := 18) (v := ?_) rfl (by kernel_rfl) (by kernel_rfl) (by kernel_rfl) (fun _ _ _ h => h) (Or.inl ⟨by kernel_rfl, ?_⟩) B15.all ?_
  rotate_left
  · (intro w0 hSw; (try dsimp only at hSw); obtain ⟨c0, c1, c2, c3, c4, c5, c6, c7, d0, d1, d2, d3, d4, d5, d6, d7, hLB⟩ := hSw; go_simp; try with_reducible rfl)
  try dsimp only [List.getElem_toArray, List.getElem_cons_succ, List.getElem_cons_zero, Act.put]
  try simp only [List.setIfInBounds_toArray, List.set_cons_zero, List.set_cons_succ]
  refine wpAnyH_done (by kernel_rfl) ?_ _
  try dsimp only [List.getElem_toArray, List.getElem_cons_succ, List.getElem_cons_zero, Act.put]
  try simp only [List.setIfInBounds_toArray, List.set_cons_zero, List.set_cons_succ]
  go_wp2
  go_ret
  exact ⟨rfl, B15.below⟩
theorem Try.CanonNorms_all (x : Ins) (un um : Value) (y : Ins) (vn vm : Value) (w : World) (hx : HasIns w un um x) (gx : ∀ d ∈ x.nodes, In64 d) (hy : HasIns w vn vm y) (_ : ∀ d ∈ y.nodes, In64 d) :
    Calls Try.prog 4 #[insV x un um, insV y vn vm] w fun e w' => e = .returned (.bool true) ∧ Below w.heap.size w w' := by
  cases h1 : longB x with
  | true => exact Try.CanonNorms_long x y un um vn vm w hx hy (.inl h1)
  | false =>
    cases h2 : longB y with
    | true => exact Try.CanonNorms_long x y un um vn vm w hx hy (.inr ⟨h1, h2⟩)
    | false => exact Try.CanonNorms_calls x y un um vn vm w hx hy gx h1 h2
end Go.Proofs
