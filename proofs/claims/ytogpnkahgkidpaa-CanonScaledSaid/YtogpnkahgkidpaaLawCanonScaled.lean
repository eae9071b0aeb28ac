/- The law CanonScaled of layer 8, as a contract: it answers true at every instance. Conditions: points in 64 bits. -/
import Derived.Test.YtogpnkahgkidpaaLawCanonSpoilt
namespace Go.Canon
/-- Ten times as far, in a scale of one more. -/
def tenI (x : Ins) (l : List Nd) : Ins := { x with scale := x.scale + 1, nodes := l }
theorem ten_take {l : List Nd} {k : Nat} {d : Nd} (h : l[k]? = some d) : (l.take (k + 1)).map tenNd = (l.take k).map tenNd ++ [tenNd d] := by
  rw [Go.Proofs.ctake_get h, List.map_append]; rfl
theorem ten_ne (x : Ins) (l : List Nd) : decide (x = tenI x l) = false := decide_eq_false (fun e => by
  have h := congrArg Ins.scale e
  simp only [tenI] at h
  omega)
end Go.Canon
namespace Go.Proofs
open Go.RowKit Go.Shelf Go.Canon
attribute [local go_sem] Oper.semAt_some

theorem well_points {x : Ins} (h : wellB nameB x = true) : ∀ d ∈ x.nodes, (-100000000 ≤ d.x ∧ d.x ≤ 100000000) ∧ (-100000000 ≤ d.y ∧ d.y ≤ 100000000) := by
  intro d hd
  obtain ⟨i, hi⟩ := List.getElem?_of_mem hd
  have hlt := (List.getElem?_eq_some_iff.1 hi).1
  have hc := ((well_iff.1 h).nodes i hlt).1
  have e : at' x i = d := by simp [at', List.getD, hi]
  rw [e] at hc
  simp only [coordB, signed, Bool.and_eq_true, decide_eq_true_eq] at hc
  exact ⟨hc.1.1, hc.1.2⟩
theorem well_scale {x : Ins} (h : wellB nameB x = true) : 0 ≤ x.scale := by
  have hs := (well_iff.1 h).scale
  simp only [scaleB, Bool.and_eq_true, decide_eq_true_eq] at hs
  exact hs.1.1
theorem cells_arr2 (W : World) (o : Obj) (cs : Array Value) (t : TypeId) : ∀ (j : Nat) (u : Value), cs.toList[j]? = some u → ((W.alloc o).alloc (.cells cs t)).cell? ((⟨W.heap.size + 1, 0, none⟩ : Addr).add j) = some u := by
  have h := cells_arr (W.alloc o) cs t
  have e : (W.alloc o).heap.size = W.heap.size + 1 := by show (W.heap.push o).size = _; simp
  rwa [e] at h
/-- An instance, and the one that is told ten times as far, so far. -/
structure ScS (w : World) (x : Ins) (un um : Value) (bq : Nat) (v : Value) (l : List Nd) (W : World) : Prop where
  bx : IBox W w.heap.size x un um
  qb : IBox W bq (tenI x l) v um
  row : W.ownsRow (w.heap.size + 1) 46 7 v l.length (l.flatMap ndC)
  lt : w.heap.size < bq
  below : Below w.heap.size w W
theorem ScS.put {w W w5 : World} {x : Ins} {un um v v' : Value} {bq : Nat} {l : List Nd} {d : Nd} {o o' : Obj} (h : ScS w x un um bq v l W) (hown' : w5.ownsRow (w.heap.size + 1) 46 7 v' (l.length + 1) (l.flatMap ndC ++ ndC d)) (hgrow : ((W.alloc o).alloc o').grownBy w5 v.ownBlock) :
    ScS w x un um bq v' (l ++ [d]) (w5.setCell ⟨bq, 6, none⟩ v') ∧ w5.cell? ⟨bq, 6, none⟩ = some v ∧ w5.frozen? ⟨bq, 6, none⟩ = false := by
  have hlt := h.lt
  have hx1 := h.bx.lt
  have hq1 := h.qb.lt
  have B0 : Below (w.heap.size + 1) W (W.alloc o) := (Below.refl _ W).alloc (by omega) o
  have B1 : Below (w.heap.size + 1) W w5 := cgrown_below B0 (Nat.le_trans (by omega) B0.size) (h.row.alloc o) hgrow
  have hqb := h.qb
  unfold IBox at hqb
  have hqo : v.ownBlock ≠ some bq := fun e => by
    rcases h.row.2 with ⟨rfl, _⟩ | ⟨g, cap, cur, rfl, _, hg, _⟩
    · simp [Value.ownBlock] at e
    · have e1 : g = bq := by simpa [Value.ownBlock] using e
      rw [e1, hqb] at hg
      injection hg with hg
      injection hg with _ e2
      exact absurd e2 (by decide)
  have hq5 : w5.heap[bq]? = W.heap[bq]? := by
    have h1 := hgrow.block bq (Nat.lt_of_lt_of_le hq1 (below_two W o o').size) (fun e => hqo e.symm)
    exact h1.trans ((below_two W o o').block bq hq1)
  have hq6 := hq5.trans hqb
  have hset : ∀ k, k ≠ bq → (w5.setCell ⟨bq, 6, none⟩ v').heap[k]? = w5.heap[k]? := fun k hk => Below.heap_setCell _ _ _ _ hk
  have hvo : v'.ownBlock ≠ some bq := fun e => by
    rcases hown'.2 with ⟨rfl, _⟩ | ⟨g, cap, cur, rfl, _, hg, _⟩
    · simp [Value.ownBlock] at e
    · have e1 : g = bq := by simpa [Value.ownBlock] using e
      rw [e1, hq6] at hg
      injection hg with hg
      injection hg with _ e2
      exact absurd e2 (by decide)
  refine ⟨⟨?_, ?_, ?_, hlt, ?_⟩, ?_, ?_⟩
  · exact (hset _ (by omega)).trans ((B1.block _ (Nat.lt_succ_self _)).trans h.bx)
  · unfold IBox
    simp [World.setCell, Array.getElem?_modify, hq6, tenI]
  · rw [flat_snoc, List.length_append]
    exact hown'.kept (row := some bq) ⟨rfl, rfl, rfl, by simp [World.setCell], fun k _ hk => hset k (fun e => hk (by rw [e]))⟩ (.inr hvo)
  · exact (h.below.trans (B1.mono (Nat.le_succ _))).setCell (by show w.heap.size ≤ bq; omega) _
  · unfold World.cell?; rw [hq6]; rfl
  · unfold World.frozen?; rw [hq6]; rfl
theorem ScS.base {w W : World} {x : Ins} {un um v : Value} {bq : Nat} {l : List Nd} (h : ScS w x un um bq v l W) (hx : HasIns w un um x) : LawBQ w x un um bq (tenI x l) v um W :=
  ⟨h.bx, h.qb, hx.next h.below, ⟨nodes_of_owns h.row, hx.matrix.next h.below⟩, h.below⟩
theorem sc_start {w V : World} {x : Ins} {un um v0 : Value} {bq : Nat} (h1 : IBox V w.heap.size x un um) (h2 : IBox V bq (tenI x []) v0 um) (hlt : w.heap.size < bq) (hb : Below w.heap.size w V) : ScS w x un um bq (.slice (some ⟨V.heap.size, 0, none⟩) 0 0) [] ((V.alloc (.cells #[] 46)).setCell ⟨bq, 6, none⟩ (.slice (some ⟨V.heap.size, 0, none⟩) 0 0)) := by
  have h3 := h2.next (below_box V (.cells #[] 46))
  unfold IBox at h3
  refine ⟨(Below.heap_setCell _ _ _ _ (by show w.heap.size ≠ bq; omega)).trans (h1.next (below_box _ _)), ?_, owns_low (cowns_set (cowns_empty V 46 7) (by show bq < V.heap.size; exact h2.lt) _) h1.lt, hlt, (hb.alloc hb.size _).setCell (by show w.heap.size ≤ bq; omega) _⟩
  unfold IBox
  simp [World.setCell, Array.getElem?_modify, h3, tenI]
set_option maxRecDepth 100000 in
set_option maxHeartbeats 4000000 in
theorem Try.CanonScaled_long (x : Ins) (vn vm : Value) (w : World) (hx : HasIns w vn vm x) (hl : longB x = true) :
    Calls Try.prog 6 #[insV x vn vm] w fun e w' => e = .returned (.bool true) ∧ Below w.heap.size w w' := by
  have HLONG := Lib.hid (fun W h => Try.llong_calls x vn vm W h)
  have HSH := Lib.hid (fun W => Try.shown_calls W)
  have HB := Lib.hid (LawB.new hx)
  rw [hl] at HLONG
  obtain ⟨an, cn, rfl, _⟩ := hx.nodes.dat
  obtain ⟨am, cm, rfl, _⟩ := hx.matrix.dat
  unfold insV at *
  clear hx hl
  generalize x.nodes.length = L at *
  generalize x.matrix.length = M at *
  go_enter Try.func6, Try.ntmps6
  go_wp2_with (fail)
  (with_reducible refine (HLONG.out _ HB.out.ins).mono ?_)
  rintro e w1 ⟨rfl, hb1⟩
  have hB1 := (below_box _ _).trans (hb1.mono (below_box _ _).size)
  clear hb1 HLONG
  go_wp2_with (fail)
  (with_reducible refine (HSH.out _).mono ?_)
  rintro e w2 ⟨rfl, hb2⟩
  go_wp2
  go_ret
  exact ⟨rfl, hB1.trans (hb2.mono hB1.size)⟩
set_option maxRecDepth 100000 in
set_option maxHeartbeats 4000000 in
theorem Try.CanonScaled_out (x : Ins) (vn vm : Value) (w : World) (hx : HasIns w vn vm x) (hl : longB x = false) (h : wellB nameB x = false ∨ wellB nameB x = true ∧ (6 ≤ x.scale ∨ x.scale < 6 ∧ x.metric = 0)) :
    Calls Try.prog 6 #[insV x vn vm] w fun e w' => e = .returned (.bool true) ∧ Below w.heap.size w w' := by
  have HLONG := Lib.hid (fun W h => Try.llong_calls x vn vm W h)
  have HSH := Lib.hid (fun W => Try.shown_calls W)
  have HB := Lib.hid (LawB.new hx)
  rw [hl] at HLONG
  obtain ⟨b1, b2, b3⟩ := long_no hl
  have H15 := Lib.hid (fun W h => Try.L15 x vn vm W h b1)
  have H21 := Lib.hid (fun v W h => Try.L21 x v vm W h b3)
  obtain ⟨an, cn, rfl, _⟩ := hx.nodes.dat
  obtain ⟨am, cm, rfl, _⟩ := hx.matrix.dat
  unfold insV at *
  clear hx hl b1 b2 b3
  rcases h with hw | ⟨hw, hs | ⟨hs, hm⟩⟩
  · rw [hw] at H21
    clear hw
    generalize x.nodes.length = L at *
    generalize x.matrix.length = M at *
    go_enter Try.func6, Try.ntmps6
    go_wp2_with (fail)
    (with_reducible refine (HLONG.out _ HB.out.ins).mono ?_)
    rintro e w1 ⟨rfl, hb1⟩
    have B1 := Lib.hid (HB.out.next hb1)
    clear hb1 HLONG HB
    obtain ⟨c0, c1, c2, c3, c4, c5, c6, c7⟩ := B1.out.cells
    go_wp2_with (fail)
    (with_reducible refine (H15.out _ B1.out.ins).mono ?_)
    rintro e w2 ⟨v2, rfl, hI, hb2⟩
    have B2 := Lib.hid (B1.out.next hb2)
    have I2 := Lib.hid hI
    obtain ⟨n2, k2, rfl, _⟩ := hI.nodes.dat
    clear c0 c1 c2 c3 c4 c5 c6 c7 hb2 hI B1
    go_wp2_with (fail)
    (with_reducible refine (H21.out _ _ I2.out).mono ?_)
    rintro e w3 ⟨rfl, hb3⟩
    have B3 := Lib.hid (B2.out.next hb3)
    clear hb3 B2 I2
    obtain ⟨c0, c1, c2, c3, c4, c5, c6, c7⟩ := B3.out.cells
    go_wp2_with (fail)
    (with_reducible refine (HSH.out _).mono ?_)
    rintro e w4 ⟨rfl, hb4⟩
    have B4 := Lib.hid (B3.out.next hb4)
    clear c0 c1 c2 c3 c4 c5 c6 c7 hb4 B3
    go_wp2
    go_ret
    exact ⟨rfl, B4.out.below⟩
  · rw [hw] at H21
    clear hw
    generalize x.nodes.length = L at *
    generalize x.matrix.length = M at *
    go_enter Try.func6, Try.ntmps6
    go_wp2_with (fail)
    (with_reducible refine (HLONG.out _ HB.out.ins).mono ?_)
    rintro e w1 ⟨rfl, hb1⟩
    have B1 := Lib.hid (HB.out.next hb1)
    clear hb1 HLONG HB
    obtain ⟨c0, c1, c2, c3, c4, c5, c6, c7⟩ := B1.out.cells
    go_wp2_with (fail)
    (with_reducible refine (H15.out _ B1.out.ins).mono ?_)
    rintro e w2 ⟨v2, rfl, hI, hb2⟩
    have B2 := Lib.hid (B1.out.next hb2)
    have I2 := Lib.hid hI
    obtain ⟨n2, k2, rfl, _⟩ := hI.nodes.dat
    clear c0 c1 c2 c3 c4 c5 c6 c7 hb2 hI B1
    go_wp2_with (fail)
    (with_reducible refine (H21.out _ _ I2.out).mono ?_)
    rintro e w3 ⟨rfl, hb3⟩
    have B3 := Lib.hid (B2.out.next hb3)
    clear hb3 B2 I2
    obtain ⟨c0, c1, c2, c3, c4, c5, c6, c7⟩ := B3.out.cells
    go_wp2_with (fail)
    (with_reducible refine (HSH.out _).mono ?_)
    rintro e w4 ⟨rfl, hb4⟩
    have B4 := Lib.hid (B3.out.next hb4)
    clear c0 c1 c2 c3 c4 c5 c6 c7 hb4 B3
    go_wp2
    go_ret
    exact ⟨rfl, B4.out.below⟩
  · rw [hw] at H21
    have km : (x.metric == 0) = true := beq_iff_eq.2 hm
    clear hw hm
    generalize x.nodes.length = L at *
    generalize x.matrix.length = M at *
    go_enter Try.func6, Try.ntmps6
    go_wp2_with (fail)
    (with_reducible refine (HLONG.out _ HB.out.ins).mono ?_)
    rintro e w1 ⟨rfl, hb1⟩
    have B1 := Lib.hid (HB.out.next hb1)
    clear hb1 HLONG HB
    obtain ⟨c0, c1, c2, c3, c4, c5, c6, c7⟩ := B1.out.cells
    go_wp2_with (fail)
    (with_reducible refine (H15.out _ B1.out.ins).mono ?_)
    rintro e w2 ⟨v2, rfl, hI, hb2⟩
    have B2 := Lib.hid (B1.out.next hb2)
    have I2 := Lib.hid hI
    obtain ⟨n2, k2, rfl, _⟩ := hI.nodes.dat
    clear c0 c1 c2 c3 c4 c5 c6 c7 hb2 hI B1
    go_wp2_with (fail)
    (with_reducible refine (H21.out _ _ I2.out).mono ?_)
    rintro e w3 ⟨rfl, hb3⟩
    have B3 := Lib.hid (B2.out.next hb3)
    clear hb3 B2 I2
    obtain ⟨c0, c1, c2, c3, c4, c5, c6, c7⟩ := B3.out.cells
    go_wp2_with (fail)
    (with_reducible refine (HSH.out _).mono ?_)
    rintro e w4 ⟨rfl, hb4⟩
    have B4 := Lib.hid (B3.out.next hb4)
    clear c0 c1 c2 c3 c4 c5 c6 c7 hb4 B3
    go_wp2
    go_ret
    exact ⟨rfl, B4.out.below⟩
set_option maxRecDepth 100000 in
set_option maxHeartbeats 8000000 in
theorem Try.CanonScaled_calls (x : Ins) (vn vm : Value) (w : World) (hx : HasIns w vn vm x) (g64 : ∀ d ∈ x.nodes, In64 d) (hl : longB x = false) (hw : wellB nameB x = true) (hs : x.scale < 6) (hm : ¬ x.metric = 0) :
    Calls Try.prog 6 #[insV x vn vm] w fun e w' => e = .returned (.bool true) ∧ Below w.heap.size w w' := by
  have HLONG := Lib.hid (fun W h => Try.llong_calls x vn vm W h)
  have HSH := Lib.hid (fun W => Try.shown_calls W)
  have HB := Lib.hid (LawB.new hx)
  rw [hl] at HLONG
  obtain ⟨b1, b2, b3⟩ := long_no hl
  have hs0 := well_scale hw
  have HPT := Lib.hid (well_points hw)
  have H15 := Lib.hid (fun W h => Try.L15 x vn vm W h b1)
  have H21 := Lib.hid (fun v W h => Try.L21 x v vm W h b3)
  rw [hw] at H21
  have H18x := Lib.hid (fun W h => Try.norm_calls x vn vm W h (by omega) (by omega) g64)
  have H18y := Lib.hid (fun v W h => Try.norm_calls (tenI x (x.nodes.map tenNd)) v vm W h (by simp only [tenI, List.length_map]; omega) (by simp only [tenI]; omega) (fun d hd => by
    obtain ⟨e, he, rfl⟩ := List.mem_map.1 hd
    have := well_points hw e he
    unfold In64 tenNd
    dsimp only
    omega))
  have hnt : norm (tenI x (x.nodes.map tenNd)) = norm x := norm_ten hs0 hs
  rw [hnt] at H18y
  have hkm : (norm x).matrix.length = x.matrix.length := by rw [(norm_keeps x).2.2.2.2.2]
  have H20n := Lib.hid (fun u1 u2 v1 v2 W h1 h2 => Try.same_calls (norm x) (norm x) u1 u2 v1 v2 W h1 h2 (by rw [norm_length]; omega) (by rw [hkm]; omega) (by rw [hkm]; omega))
  rw [decide_eq_true rfl] at H20n
  have H20 := Lib.hid (fun v W h1 h2 => Try.same_calls x (tenI x (x.nodes.map tenNd)) vn vm v vm W h1 h2 (by omega) (by omega) (by simp only [tenI]; omega))
  rw [ten_ne] at H20
  have HX := Lib.hid hx
  have HLB := Lib.hid b1
  obtain ⟨xn, hxn⟩ : ∃ xn, norm x = xn := ⟨_, rfl⟩
  rw [hxn] at H18x H18y H20n
  obtain ⟨i0, hi, hz0, hz1, hz2⟩ := info_parts Try.info46
  have HI := Lib.hid hi
  have km : (x.metric == 0) = false := beq_eq_false_iff_ne.2 hm
  have hxn' := hx.nodes.dat
  obtain ⟨an, cn, rfl, _⟩ := hx.nodes.dat
  obtain ⟨am, cm, rfl, _⟩ := hx.matrix.dat
  unfold insV at *
  clear hx hl b1 b2 b3 hw hm hnt hkm hxn g64 hi hxn'
  obtain ⟨L, hL⟩ : ∃ L, x.nodes.length = L := ⟨_, rfl⟩
  have HLe := Lib.hid hL
  rw [hL] at HLONG HB H15 H18x H20 HX HLB ⊢
  clear hL
  generalize x.matrix.length = M at *
  go_enter Try.func6, Try.ntmps6
  go_wp2_with (fail)
  (with_reducible refine (HLONG.out _ HB.out.ins).mono ?_)
  rintro e w1 ⟨rfl, hb1⟩
  have B1 := Lib.hid (HB.out.next hb1)
  clear hb1 HLONG HB
  obtain ⟨c0, c1, c2, c3, c4, c5, c6, c7⟩ := B1.out.cells
  go_wp2_with (fail)
  (with_reducible refine (H15.out _ B1.out.ins).mono ?_)
  rintro e w2 ⟨v2, rfl, hI, hb2⟩
  have B2 := Lib.hid (B1.out.next hb2)
  have I2 := Lib.hid hI
  obtain ⟨n2, k2, rfl, _⟩ := hI.nodes.dat
  clear c0 c1 c2 c3 c4 c5 c6 c7 hb2 hI B1
  go_wp2_with (fail)
  (with_reducible refine (H21.out _ _ I2.out).mono ?_)
  rintro e w3 ⟨rfl, hb3⟩
  have B3 := Lib.hid (B2.out.next hb3)
  clear hb3 B2 I2
  obtain ⟨c0, c1, c2, c3, c4, c5, c6, c7⟩ := B3.out.cells
  go_wp2_with (fail)
  (with_reducible refine (HSH.out _).mono ?_)
  rintro e w4 ⟨rfl, hb4⟩
  have B4 := Lib.hid (B3.out.next hb4)
  clear c0 c1 c2 c3 c4 c5 c6 c7 hb4 B3
  clear H15 H21 HSH
  obtain ⟨c0, c1, c2, c3, c4, c5, c6, c7⟩ := B4.out.cells
  go_upto_region 4 with (fail)
  have hlt4 : w.heap.size < w4.heap.size := B4.out.box.lt
  have QB : IBox (w4.alloc (.cells #[.string x.name, .int .i64 x.kind, .int .i64 x.metric, .int .i64 x.scale, .int .i64 x.cap, .int .i64 x.fleet, .slice an L cn, .slice am M cm] 25)) w4.heap.size x (.slice an L cn) (.slice am M cm) := IBox.new _ _ _ _
  have BB := B4.out.next (below_box w4 (.cells #[.string x.name, .int .i64 x.kind, .int .i64 x.metric, .int .i64 x.scale, .int .i64 x.cap, .int .i64 x.fleet, .slice an L cn, .slice am M cm] 25))
  have HBB := Lib.hid BB
  have HQB := Lib.hid QB
  clear B4 c0 c1 c2 c3 c4 c5 c6 c7 QB BB
  generalize hV : w4.alloc (.cells #[.string x.name, .int .i64 x.kind, .int .i64 x.metric, .int .i64 x.scale, .int .i64 x.cap, .int .i64 x.fleet, .slice an L cn, .slice am M cm] 25) = V at *
  generalize w4.heap.size = bq at *
  clear hV
  have c3 : V.cell? ⟨w.heap.size, 3, none⟩ = some (.int .i64 x.scale) := HBB.out.box.p 3
  have q3 : V.cell? ⟨bq, 3, none⟩ = some (.int .i64 x.scale) := HQB.out.p 3
  have f3 : V.frozen? ⟨bq, 3, none⟩ = false := by
    have h := HQB.out
    unfold IBox at h
    unfold World.frozen?; rw [h]; rfl
  have hbqx : bq ≠ w.heap.size := by omega
  have QB1 : IBox (V.setCell ⟨bq, 3, none⟩ (.int .i64 (x.scale + 1))) bq (tenI x []) (.slice an L cn) (.slice am M cm) := by
    have h := HQB.out
    unfold IBox at h ⊢
    simp [World.setCell, Array.getElem?_modify, h, tenI]
  have BX1 : IBox (V.setCell ⟨bq, 3, none⟩ (.int .i64 (x.scale + 1))) w.heap.size x (.slice an L cn) (.slice am M cm) := (Below.heap_setCell _ _ _ _ (fun e => hbqx e.symm)).trans HBB.out.box
  have BL1 : Below w.heap.size w (V.setCell ⟨bq, 3, none⟩ (.int .i64 (x.scale + 1))) := HBB.out.below.setCell (by show w.heap.size ≤ bq; omega) _
  go_upto_region 5 with (fail)
  have HQ1 := Lib.hid QB1
  have HX1 := Lib.hid BX1
  have HL1 := Lib.hid BL1
  clear c3 q3 f3 QB1 BX1 BL1 HBB HQB
  generalize V.setCell ⟨bq, 3, none⟩ (.int .i64 (x.scale + 1)) = V1 at *
  have q6 : ∀ o, (V1.alloc o).cell? ⟨bq, 6, none⟩ = some (.slice an L cn) := fun o => (HQ1.out.next (below_box V1 o)).p 6
  have f6 : ∀ o, (V1.alloc o).frozen? ⟨bq, 6, none⟩ = false := fun o => by
    have h := HQ1.out.next (below_box V1 o)
    unfold IBox at h
    unfold World.frozen?; rw [h]; rfl
  have q6' : V1.cell? ⟨bq, 6, none⟩ = some (.slice an L cn) := HQ1.out.p 6
  have f6' : V1.frozen? ⟨bq, 6, none⟩ = false := by
    have h := HQ1.out
    unfold IBox at h
    unfold World.frozen?; rw [h]; rfl
  go_upto_region 6 with (fail)
  have S0 := Lib.hid (sc_start HX1.out HQ1.out hlt4 HL1.out)
  clear q6 f6 q6' f6' HX1 HQ1 HL1
  generalize (V1.alloc (.cells #[] 46)).setCell ⟨bq, 6, none⟩ (.slice (some ⟨V1.heap.size, 0, none⟩) 0 0) = V2 at *
  generalize (Value.slice (some ⟨V1.heap.size, 0, none⟩) 0 0) = v0 at *
  have hLB := HLB.out
  go_wp2
  go_loopw [4] (fun i wr => ∃ (k : Nat) (v : Value), k ≤ L ∧ i = .int .i64 (k : Int) ∧ Hid (ScS w x (.slice an L cn) (.slice am M cm) bq v ((x.nodes.take k).map tenNd) wr)) (fun i _ => L - (intOf i).toNat)
  case atStart => exact ⟨0, _, Nat.zero_le _, rfl, S0⟩
  case round =>
    obtain ⟨k, v, hk, rfl, hS⟩ := hrel
    clear S0
    by_cases hlt : k < L
    · rcases HX.out.nodes with h0 | ⟨b, off, nc, e, _, _, hd⟩
      · have h1 := HLe.out; rw [h0.1] at h1; simp at h1; omega
      obtain ⟨rfl⟩ : an = some ⟨b, off, none⟩ := by injection e
      obtain ⟨d, hdk⟩ : ∃ d, x.nodes[k]? = some d := ⟨_, List.getElem?_eq_getElem (by have := HLe.out; omega)⟩
      obtain ⟨x0, x1, x2, x3, x4, x5, x6⟩ := (hd.2 k d hdk).below hS.out.below hd.1
      obtain ⟨⟨i1, i2⟩, ⟨i3, i4⟩⟩ := HPT.out d (List.mem_of_getElem? hdk)
      have HD := Lib.hid hdk
      have hki : (k : Int) < (L : Int) := by omega
      have hlen : ((x.nodes.take k).map tenNd).length = k := by rw [List.length_map, List.length_take, HLe.out]; omega
      have row := hS.out.row
      rw [hlen] at row
      have HLN := Lib.hid hlen
      have p6 : wr.cell? ⟨w.heap.size, 6, none⟩ = some (.slice (some ⟨b, off, none⟩) L cn) := hS.out.bx.p 6
      have p6' : ∀ o, (wr.alloc o).cell? ⟨bq, 6, none⟩ = some v := fun o => (hS.out.qb.next (below_box wr o)).p 6
      have hml : k + 1 ≤ maxLen := by unfold maxLen; omega
      have hml2 : (k + 1) * 56 ≤ 140737488355328 := by omega
      have hnx : w.heap.size < wr.heap.size := hS.out.bx.lt
      clear hd hdk hlen e
      go_wp2_with (at_builtin; refine wpList_append_own _ rfl _ _ 22 rfl (w.heap.size + 1) 46 i0 (.agg #[.int .i64 0, .int .i64 0, .int .i64 0, .int .i64 0, .int .i64 0, .int .i64 0, .int .i64 0]) 7 56 Try.underlying22 HI.out hz0 hz1 hz2 rfl (by decide) _ k _ rfl ((row.alloc _).alloc _) ⟨wr.heap.size + 1, 0, none⟩ 1 1 (ndC (tenNd d)) rfl rfl (fun j u h => cells_arr2 wr _ _ _ j u h) (by simp [ndC, Value.oneCell']) hml hml2 (Nat.le_trans hnx (below_two wr _ _).size) ?_; intro v' w5 hown' hgrow _; obtain ⟨R, e6, g6⟩ := hS.out.put (by rw [HLN.out]; exact hown') hgrow; have RR := Lib.hid R; obtain ⟨ao, vc, rfl⟩ := owns_dat hown')
      go_wp2
      go_roundw
      case rel => exact ⟨k + 1, _, by omega, by go_num, Lib.hid (by rw [ten_take HD.out]; exact RR.out)⟩
      case measure => simp [intOf]; omega
    · obtain rfl : k = L := by omega
      have hB := hS.out.base HX.out
      have htk : (x.nodes.take k).map tenNd = x.nodes.map tenNd := by rw [List.take_of_length_le (Nat.le_of_eq HLe.out)]
      rw [htk] at hB
      obtain ⟨vo, vc, rfl, _⟩ := hB.iy.nodes.dat
      have HQ := Lib.hid hB
      clear hS hB htk hLB
      generalize tenI x (x.nodes.map tenNd) = y at *
      have p6 : wr.cell? ⟨w.heap.size, 6, none⟩ = some (.slice an k cn) := HQ.out.bx.p 6
      go_wp2
      refine wp_region_held_drew (S := LawSQ w x (.slice an k cn) (.slice am M cm) bq y (.slice vo y.nodes.length vc) (.slice am M cm)) (by kernel_rfl) HQ.out.drew.all (fun hHeld0 => ?_)
      have B4 := HQ.out.drew
      clear hHeld0
      generalize wr.drew = W4 at *
      refine wpAnyH_take (i := 0) (v := ?_) rfl (by kernel_rfl) (by kernel_rfl) (by kernel_rfl) (fun _ _ _ h => h) (Or.inl ⟨by kernel_rfl, ?_⟩) B4.all ?_
      rotate_left
      · (intro w0 hSw; (try dsimp only at hSw); obtain ⟨c0, c1, c2, c3, c4, c5, c6, c7, d0, d1, d2, d3, d4, d5, d6, d7, hLB⟩ := hSw; go_simp; try with_reducible rfl)
      try dsimp only [List.getElem_toArray, List.getElem_cons_succ, List.getElem_cons_zero, Act.put]
      try simp only [List.setIfInBounds_toArray, List.set_cons_zero, List.set_cons_succ]
      refine wpAnyH_take (i := 2) (v := ?_) rfl (by kernel_rfl) (by kernel_rfl) (by kernel_rfl) (fun _ _ _ h => h) (Or.inl ⟨by kernel_rfl, ?_⟩) B4.all ?_
      rotate_left
      · (intro w0 hSw; (try dsimp only at hSw); obtain ⟨c0, c1, c2, c3, c4, c5, c6, c7, d0, d1, d2, d3, d4, d5, d6, d7, hLB⟩ := hSw; go_simp; try with_reducible rfl)
      try dsimp only [List.getElem_toArray, List.getElem_cons_succ, List.getElem_cons_zero, Act.put]
      try simp only [List.setIfInBounds_toArray, List.set_cons_zero, List.set_cons_succ]
      refine wpAnyH_ready (rs := [1]) (by kernel_rfl) (by simp) (AllReadyH.cons rfl (fun K hK => ?_) AllReadyH.nil)
      go_simp
      go_at_call 18
      (with_reducible refine (H18x.out _ B4.ix).mono ?_)
      rintro e W1 ⟨u1, u2, rfl, In, h1⟩
      have B1 := B4.next h1
      obtain ⟨n1, k1, rfl, _⟩ := In.nodes.dat
      obtain ⟨n3, k3, rfl, _⟩ := In.matrix.dat
      refine hK.out _ _ B1.all (fun hHeld1 => ?_)
      clear hK K hHeld1
      try dsimp only [List.getElem_toArray, List.getElem_cons_succ, List.getElem_cons_zero, Act.put]
      try simp only [List.setIfInBounds_toArray, List.set_cons_zero, List.set_cons_succ]
      refine wpAnyH_ready (rs := [3]) (by kernel_rfl) (by simp) (AllReadyH.cons rfl (fun K hK => ?_) AllReadyH.nil)
      go_simp
      go_at_call 18
      (with_reducible refine (H18y.out _ _ B1.iy).mono ?_)
      rintro e W3 ⟨u5, u6, rfl, Im, h3⟩
      have B3 := B1.next h3
      replace In := HasIns.next In h3
      obtain ⟨n5, k5, rfl, _⟩ := Im.nodes.dat
      obtain ⟨n6, k6, rfl, _⟩ := Im.matrix.dat
      refine hK.out _ _ B3.all (fun hHeld3 => ?_)
      clear hK K hHeld3
      try dsimp only [List.getElem_toArray, List.getElem_cons_succ, List.getElem_cons_zero, Act.put]
      try simp only [List.setIfInBounds_toArray, List.set_cons_zero, List.set_cons_succ]
      refine wpAnyH_ready (rs := [4]) (by kernel_rfl) (by simp) (AllReadyH.cons rfl (fun K hK => ?_) AllReadyH.nil)
      go_simp
      go_at_call 20
      (with_reducible refine (H20n.out _ _ _ _ _ In Im).mono ?_)
      rintro e W4 ⟨rfl, h4⟩
      have B4 := B3.next h4
      replace In := HasIns.next In h4
      replace Im := HasIns.next Im h4
      refine hK.out _ _ B4.all (fun hHeld4 => ?_)
      clear hK K hHeld4
      try dsimp only [List.getElem_toArray, List.getElem_cons_succ, List.getElem_cons_zero, Act.put]
      try simp only [List.setIfInBounds_toArray, List.set_cons_zero, List.set_cons_succ]
      refine wpAnyH_take (i := 5) (v := ?_) rfl (by kernel_rfl) (by kernel_rfl) (by kernel_rfl) (fun _ _ _ h => h) (Or.inl ⟨by kernel_rfl, ?_⟩) B4.all ?_
      rotate_left
      · (intro w0 hSw; (try dsimp only at hSw); obtain ⟨c0, c1, c2, c3, c4, c5, c6, c7, d0, d1, d2, d3, d4, d5, d6, d7, hLB⟩ := hSw; go_simp; try with_reducible rfl)
      try dsimp only [List.getElem_toArray, List.getElem_cons_succ, List.getElem_cons_zero, Act.put]
      try simp only [List.setIfInBounds_toArray, List.set_cons_zero, List.set_cons_succ]
      refine wpAnyH_take (i := 6) (v := ?_) rfl (by kernel_rfl) (by kernel_rfl) (by kernel_rfl) (fun _ _ _ h => h) (Or.inl ⟨by kernel_rfl, ?_⟩) B4.all ?_
      rotate_left
      · (intro w0 hSw; (try dsimp only at hSw); obtain ⟨c0, c1, c2, c3, c4, c5, c6, c7, d0, d1, d2, d3, d4, d5, d6, d7, hLB⟩ := hSw; go_simp; try with_reducible rfl)
      try dsimp only [List.getElem_toArray, List.getElem_cons_succ, List.getElem_cons_zero, Act.put]
      try simp only [List.setIfInBounds_toArray, List.set_cons_zero, List.set_cons_succ]
      refine wpAnyH_take (i := 7) (v := ?_) rfl (by kernel_rfl) (by kernel_rfl) (by kernel_rfl) (fun _ _ _ h => h) (Or.inl ⟨by kernel_rfl, ?_⟩) B4.all ?_
      rotate_left
      · (intro w0 hSw; (try dsimp only at hSw); obtain ⟨c0, c1, c2, c3, c4, c5, c6, c7, d0, d1, d2, d3, d4, d5, d6, d7, hLB⟩ := hSw; go_simp; try with_reducible rfl)
      try dsimp only [List.getElem_toArray, List.getElem_cons_succ, List.getElem_cons_zero, Act.put]
      try simp only [List.setIfInBounds_toArray, List.set_cons_zero, List.set_cons_succ]
      refine wpAnyH_ready (rs := [8]) (by kernel_rfl) (by simp) (AllReadyH.cons rfl (fun K hK => ?_) AllReadyH.nil)
      go_simp
      go_at_call 20
      (with_reducible refine (H20.out _ _ B4.ix B4.iy).mono ?_)
      rintro e W8 ⟨rfl, h8⟩
      have B8 := B4.next h8
      replace In := HasIns.next In h8
      replace Im := HasIns.next Im h8
      refine hK.out _ _ B8.all (fun hHeld8 => ?_)
      clear hK K hHeld8
      try dsimp only [List.getElem_toArray, List.getElem_cons_succ, List.getElem_cons_zero, Act.put]
      try simp only [List.setIfInBounds_toArray, List.set_cons_zero, List.set_cons_succ]
      refine wpAnyH_take (i := 9) (v := .bool true) rfl (by kernel_rfl) (by kernel_rfl) (by kernel_rfl) (fun _ _ _ h => h) (Or.inl ⟨by kernel_rfl, ?_⟩) B8.all ?_
      · (intro w0 hSw; (try dsimp only at hSw); obtain ⟨c0, c1, c2, c3, c4, c5, c6, c7, d0, d1, d2, d3, d4, d5, d6, d7, hLB⟩ := hSw; go_simp; try with_reducible rfl)
      try dsimp only [List.getElem_toArray, List.getElem_cons_succ, List.getElem_cons_zero, Act.put]
      try simp only [List.setIfInBounds_toArray, List.set_cons_zero, List.set_cons_succ]
      refine wpAnyH_take (i := 10) (v := .bool true) rfl (by kernel_rfl) (by kernel_rfl) (by kernel_rfl) (fun _ _ _ h => h) (Or.inl ⟨by kernel_rfl, ?_⟩) B8.all ?_
      · (intro w0 hSw; (try dsimp only at hSw); obtain ⟨c0, c1, c2, c3, c4, c5, c6, c7, d0, d1, d2, d3, d4, d5, d6, d7, hLB⟩ := hSw; go_simp; try with_reducible rfl)
      try dsimp only [List.getElem_toArray, List.getElem_cons_succ, List.getElem_cons_zero, Act.put]
      try simp only [List.setIfInBounds_toArray, List.set_cons_zero, List.set_cons_succ]
      refine wpAnyH_take (i := 11) (v := ?_) rfl (by kernel_rfl) (by kernel_rfl) (by kernel_rfl) (fun _ _ _ h => h) (Or.inl ⟨by kernel_rfl, ?_⟩) B8.all ?_
      rotate_left
      · (intro w0 hSw; (try dsimp only at hSw); obtain ⟨c0, c1, c2, c3, c4, c5, c6, c7, d0, d1, d2, d3, d4, d5, d6, d7, hLB⟩ := hSw; go_simp; try with_reducible rfl)
      try dsimp only [List.getElem_toArray, List.getElem_cons_succ, List.getElem_cons_zero, Act.put]
      try simp only [List.setIfInBounds_toArray, List.set_cons_zero, List.set_cons_succ]
      refine wpAnyH_done (by kernel_rfl) ?_ _
      try dsimp only [List.getElem_toArray, List.getElem_cons_succ, List.getElem_cons_zero, Act.put]
      try simp only [List.setIfInBounds_toArray, List.set_cons_zero, List.set_cons_succ]
      go_wp2
      go_ret
      exact ⟨rfl, B8.below⟩
theorem Try.CanonScaled_all (x : Ins) (vn vm : Value) (w : World) (hx : HasIns w vn vm x) (gx : ∀ d ∈ x.nodes, In64 d) :
    Calls Try.prog 6 #[insV x vn vm] w fun e w' => e = .returned (.bool true) ∧ Below w.heap.size w w' := by
  cases h1 : longB x with
  | true => exact Try.CanonScaled_long x vn vm w hx h1
  | false =>
    cases h2 : wellB nameB x with
    | false => exact Try.CanonScaled_out x vn vm w hx h1 (.inl h2)
    | true =>
      by_cases hs : 6 ≤ x.scale
      · exact Try.CanonScaled_out x vn vm w hx h1 (.inr ⟨h2, .inl hs⟩)
      · by_cases hm : x.metric = 0
        · exact Try.CanonScaled_out x vn vm w hx h1 (.inr ⟨h2, .inr ⟨by omega, hm⟩⟩)
        · exact Try.CanonScaled_calls x vn vm w hx gx h1 h2 (by omega) hm
end Go.Proofs
