/- The law CanonNormal of layer 8, as a contract: it answers true at every instance. Conditions: points in 64 bits. -/
import Derived.Test.YtogpnkahgkidpaaCanonLaw
namespace Go.Canon
theorem normN_in : ∀ (s : Nat) (l : List Nd), (∀ d ∈ l, Go.Proofs.In64 d) → ∀ d ∈ (normN s l).2, Go.Proofs.In64 d
  | 0, _, h => h
  | s + 1, l, h => by
    rw [normN]; split
    · exact normN_in s _ (Go.Proofs.in_shrink h)
    · exact h
theorem norm_in (x : Ins) (h : ∀ d ∈ x.nodes, Go.Proofs.In64 d) : ∀ d ∈ (norm x).nodes, Go.Proofs.In64 d := by
  unfold norm; split
  · exact normN_in _ _ h
  · exact h
/-- The faults of the rest stand among those that are left. -/
theorem sub_skip {l m : List (Nat × Nat)} {i k : Nat} {p q : Nat × Nat} (h : (m.drop i).Sublist (l.drop k)) (hm : m[i]? = some q) (hl : l[k]? = some p) (hpq : p ≠ q) : (m.drop i).Sublist (l.drop (k + 1)) := by
  have h1 := (List.getElem?_eq_some_iff.1 hm)
  have h2 := (List.getElem?_eq_some_iff.1 hl)
  rw [← List.getElem_cons_drop h1.1, ← List.getElem_cons_drop h2.1, h1.2, h2.2] at h
  rw [← List.getElem_cons_drop h1.1, h1.2]
  cases h with
  | cons _ h => exact h
  | cons_cons _ h => exact absurd rfl hpq
theorem sub_next {l m : List (Nat × Nat)} {i k : Nat} {q : Nat × Nat} (h : (m.drop i).Sublist (l.drop k)) (hm : m[i]? = some q) : (m.drop (i + 1)).Sublist (l.drop k) := by
  have h1 := (List.getElem?_eq_some_iff.1 hm)
  rw [← List.getElem_cons_drop h1.1] at h
  exact (List.sublist_cons_self _ _).trans h
theorem sub_end {l m : List (Nat × Nat)} {i k : Nat} (h : (m.drop i).Sublist (l.drop k)) (hi : i < m.length) : k < l.length := by
  have := h.length_le
  simp at this
  omega
end Go.Canon
namespace Go.Proofs
open Go.RowKit Go.Shelf Go.Canon
attribute [local go_sem] Oper.semAt_some

/-- What stands in a law of an instance and another one that it made. -/
structure LawBQ (w : World) (x : Ins) (un um : Value) (bq : Nat) (y : Ins) (vn vm : Value) (W : World) : Prop where
  bx : IBox W w.heap.size x un um
  bq : IBox W bq y vn vm
  ix : HasIns W un um x
  iy : HasIns W vn vm y
  below : Below w.heap.size w W
theorem LawBQ.next {w W W' : World} {bq : Nat} {x y : Ins} {un um vn vm : Value} (h : LawBQ w x un um bq y vn vm W) (hb : Below W.heap.size W W') : LawBQ w x un um bq y vn vm W' :=
  ⟨h.bx.next hb, h.bq.next hb, h.ix.next hb, h.iy.next hb, h.below.trans (hb.mono h.below.size)⟩
theorem LawBQ.drew {w W : World} {bq : Nat} {x y : Ins} {un um vn vm : Value} (h : LawBQ w x un um bq y vn vm W) : LawBQ w x un um bq y vn vm W.drew := h.next (bw_drew (Below.refl _ _))
def LawSQ (w : World) (x : Ins) (un um : Value) (bq : Nat) (y : Ins) (vn vm : Value) (W : World) : Prop := W.cell? ⟨w.heap.size, 0, none⟩ = some (.string x.name) ∧ W.cell? ⟨w.heap.size, 1, none⟩ = some (.int .i64 x.kind) ∧ W.cell? ⟨w.heap.size, 2, none⟩ = some (.int .i64 x.metric) ∧ W.cell? ⟨w.heap.size, 3, none⟩ = some (.int .i64 x.scale) ∧ W.cell? ⟨w.heap.size, 4, none⟩ = some (.int .i64 x.cap) ∧ W.cell? ⟨w.heap.size, 5, none⟩ = some (.int .i64 x.fleet) ∧ W.cell? ⟨w.heap.size, 6, none⟩ = some (un) ∧ W.cell? ⟨w.heap.size, 7, none⟩ = some (um) ∧ W.cell? ⟨bq, 0, none⟩ = some (.string y.name) ∧ W.cell? ⟨bq, 1, none⟩ = some (.int .i64 y.kind) ∧ W.cell? ⟨bq, 2, none⟩ = some (.int .i64 y.metric) ∧ W.cell? ⟨bq, 3, none⟩ = some (.int .i64 y.scale) ∧ W.cell? ⟨bq, 4, none⟩ = some (.int .i64 y.cap) ∧ W.cell? ⟨bq, 5, none⟩ = some (.int .i64 y.fleet) ∧ W.cell? ⟨bq, 6, none⟩ = some (vn) ∧ W.cell? ⟨bq, 7, none⟩ = some (vm) ∧ LawBQ w x un um bq y vn vm W
theorem LawBQ.all {w W : World} {bq : Nat} {x y : Ins} {un um vn vm : Value} (h : LawBQ w x un um bq y vn vm W) : LawSQ w x un um bq y vn vm W :=
  ⟨h.bx.p 0, h.bx.p 1, h.bx.p 2, h.bx.p 3, h.bx.p 4, h.bx.p 5, h.bx.p 6, h.bx.p 7, h.bq.p 0, h.bq.p 1, h.bq.p 2, h.bq.p 3, h.bq.p 4, h.bq.p 5, h.bq.p 6, h.bq.p 7, h⟩
set_option maxRecDepth 100000 in
theorem Try.CanonNormal_long (x : Ins) (vn vm : Value) (w : World) (hx : HasIns w vn vm x) (hl : longB x = true) :
    Calls Try.prog 5 #[insV x vn vm] w fun e w' => e = .returned (.bool true) ∧ Below w.heap.size w w' := by
  have HLONG := Lib.hid (fun W h => Try.llong_calls x vn vm W h)
  have HSH := Lib.hid (fun W => Try.shown_calls W)
  have HB := Lib.hid (LawB.new hx)
  rw [hl] at HLONG
  obtain ⟨an, cn, rfl, _⟩ := hx.nodes.dat
  obtain ⟨am, cm, rfl, _⟩ := hx.matrix.dat
  unfold insV at *
  clear hx hl
  generalize x.nodes.length = L at *
  generalize x.matrix.length = M at *
  go_enter Try.func5, Try.ntmps5
  go_wp2_with (fail)
  (with_reducible refine (HLONG.out _ HB.out.ins).mono ?_)
  rintro e w1 ⟨rfl, hb1⟩
  have hB1 := (below_box _ _).trans (hb1.mono (below_box _ _).size)
  clear hb1 HLONG
  go_wp2_with (fail)
  (with_reducible refine (HSH.out _).mono ?_)
  rintro e w2 ⟨rfl, hb2⟩
  go_wp2
  go_ret
  exact ⟨rfl, hB1.trans (hb2.mono hB1.size)⟩
set_option maxRecDepth 100000 in
set_option maxHeartbeats 8000000 in
theorem Try.CanonNormal_calls (x : Ins) (vn vm : Value) (w : World) (hx : HasIns w vn vm x) (g64 : ∀ d ∈ x.nodes, In64 d) (hl : longB x = false) :
    Calls Try.prog 5 #[insV x vn vm] w fun e w' => e = .returned (.bool true) ∧ Below w.heap.size w w' := by
  have HLONG := Lib.hid (fun W h => Try.llong_calls x vn vm W h)
  rw [hl] at HLONG
  have HSH := Lib.hid (fun W => Try.shown_calls W)
  have HB := Lib.hid (LawB.new hx)
  obtain ⟨b1, b2, b3⟩ := long_no hl
  have hkeep := norm_keeps x
  have hnn : (norm x).name.size ≤ 100 := by rw [hkeep.1]; exact b3
  have hnl : (norm x).nodes.length ≤ 420 := by rw [norm_length]; exact b1
  have hnm : (norm x).matrix.length ≤ 1000 := by rw [hkeep.2.2.2.2.2]; exact b2
  have H18 := Lib.hid (fun W h => Try.norm_calls x vn vm W h (by omega) (by omega) g64)
  have H18y := Lib.hid (fun u v W h => Try.norm_calls (norm x) u v W h (by omega) (by omega) (norm_in x g64))
  rw [norm_own] at H18y
  have H20y := Lib.hid (fun u1 u2 v1 v2 W h1 h2 => Try.same_calls (norm x) (norm x) u1 u2 v1 v2 W h1 h2 (by omega) (by omega) (by omega))
  have H20x := Lib.hid (fun W h1 => Try.same_calls x x vn vm vn vm W h1 h1 (by omega) (by omega) (by omega))
  rw [decide_eq_true rfl] at H20y H20x
  have H16x := Lib.hid (fun W h => Try.well_calls x vn vm W h b3 (by omega))
  have H16y := Lib.hid (fun u v W h => Try.well_calls (norm x) u v W h hnn (by omega))
  have H11x := Lib.hid (fun W h => Try.L11 x vn vm W h b3 b1)
  have H11y := Lib.hid (fun u v W h => Try.L11 (norm x) u v W h hnn hnl)
  have HWN := Lib.hid (well_norm nameB x)
  have HSUB := Lib.hid (check_norm nameB x)
  have HCX := Lib.hid (check_len nameB x b1)
  have HCY := Lib.hid (check_len nameB (norm x) hnl)
  have HSC := Lib.hid (norm_scale x)
  have HNL := Lib.hid (norm_length x)
  generalize wellB nameB x = wx at *
  generalize wellB nameB (norm x) = wy at *
  generalize checkL nameB x = lx at *
  generalize checkL nameB (norm x) = ly at *
  obtain ⟨y, hy⟩ : ∃ y, norm x = y := ⟨_, rfl⟩
  rw [hy] at H18 H18y H20y H16y H11y HSC HNL
  obtain ⟨an, cn, rfl, _⟩ := hx.nodes.dat
  obtain ⟨am, cm, rfl, _⟩ := hx.matrix.dat
  unfold insV at *
  clear hx hl g64 hy hkeep hnn hnl hnm b1 b2 b3
  generalize x.nodes.length = L at *
  generalize x.matrix.length = M at *
  go_enter Try.func5, Try.ntmps5
  go_wp2_with (fail)
  (with_reducible refine (HLONG.out _ HB.out.ins).mono ?_)
  rintro e w1 ⟨rfl, hb1⟩
  have B1 := Lib.hid (HB.out.next hb1)
  clear hb1 HLONG HB
  go_wp2_with (fail)
  (with_reducible refine (HSH.out _).mono ?_)
  rintro e w2 ⟨rfl, hb2⟩
  have B2 := Lib.hid (B1.out.next hb2)
  obtain ⟨c0, c1, c2, c3, c4, c5, c6, c7⟩ := B2.out.cells
  clear hb2 B1 HSH
  go_wp2_with (fail)
  (with_reducible refine (H18.out _ B2.out.ins).mono ?_)
  rintro e w3 ⟨un, um, rfl, hIn, hb3⟩
  have B3 := Lib.hid (B2.out.next hb3)
  have I3 := Lib.hid hIn
  obtain ⟨bn, dn, rfl, _⟩ := hIn.nodes.dat
  obtain ⟨bm, dm, rfl, _⟩ := hIn.matrix.dat
  clear c0 c1 c2 c3 c4 c5 c6 c7 hb3 hIn B2 H18
  generalize y.nodes.length = L2 at *
  generalize y.matrix.length = M2 at *
  go_upto_region 4 with (fail)
  have Q4 : LawBQ w x (.slice an L cn) (.slice am M cm) w3.heap.size y (.slice bn L2 dn) (.slice bm M2 dm) (w3.alloc (.cells #[.string y.name, .int .i64 y.kind, .int .i64 y.metric, .int .i64 y.scale, .int .i64 y.cap, .int .i64 y.fleet, .slice bn L2 dn, .slice bm M2 dm] 25)) :=
    ⟨B3.out.box.next (below_box _ _), IBox.new _ _ _ _, B3.out.ins.next (below_box _ _), I3.out.next (below_box _ _), B3.out.below.alloc B3.out.below.size _⟩
  have HQ := Lib.hid Q4
  clear Q4 B3 I3
  generalize hV : w3.alloc (.cells #[.string y.name, .int .i64 y.kind, .int .i64 y.metric, .int .i64 y.scale, .int .i64 y.cap, .int .i64 y.fleet, .slice bn L2 dn, .slice bm M2 dm] 25) = V at *
  generalize w3.heap.size = bq at *
  clear hV
  go_cut [36] from 17 to 81 (fun s36 wx => LawBQ w x (.slice an L cn) (.slice am M cm) bq y (.slice bn L2 dn) (.slice bm M2 dm) wx ∧ s36 = .bool false)
  case first =>
    cases wx with
    | true =>
      have hwy := HWN.out rfl
      rw [hwy] at H16y
      clear hwy
      refine wp_region_held_drew (S := LawSQ w x (.slice an L cn) (.slice am M cm) bq y (.slice bn L2 dn) (.slice bm M2 dm)) (by kernel_rfl) HQ.out.drew.all (fun hHeld0 => ?_)
      have B4 := HQ.out.drew
      clear hHeld0
      generalize V.drew = W4 at *
      refine wpAnyH_take (i := 0) (v := ?_) rfl (by kernel_rfl) (by kernel_rfl) (by kernel_rfl) (fun _ _ _ h => h) (Or.inl ⟨by kernel_rfl, ?_⟩) B4.all ?_
      rotate_left
      · (intro w0 hSw; (try dsimp only at hSw); obtain ⟨c0, c1, c2, c3, c4, c5, c6, c7, d0, d1, d2, d3, d4, d5, d6, d7, hLB⟩ := hSw; go_simp; try with_reducible rfl)
      try dsimp only [List.getElem_toArray, List.getElem_cons_succ, List.getElem_cons_zero, Act.put]
      try simp only [List.setIfInBounds_toArray, List.set_cons_zero, List.set_cons_succ]
      refine wpAnyH_take (i := 2) (v := ?_) rfl (by kernel_rfl) (by kernel_rfl) (by kernel_rfl) (fun _ _ _ h => h) (Or.inl ⟨by kernel_rfl, ?_⟩) B4.all ?_
      rotate_left
      · (intro w0 hSw; (try dsimp only at hSw); obtain ⟨c0, c1, c2, c3, c4, c5, c6, c7, d0, d1, d2, d3, d4, d5, d6, d7, hLB⟩ := hSw; go_simp; try with_reducible rfl)
      try dsimp only [List.getElem_toArray, List.getElem_cons_succ, List.getElem_cons_zero, Act.put]
      try simp only [List.setIfInBounds_toArray, List.set_cons_zero, List.set_cons_succ]
      refine wpAnyH_ready (rs := [1]) (by kernel_rfl) (by simp) (AllReadyH.cons rfl (fun K hK => ?_) AllReadyH.nil)
      go_simp
      go_at_call 18
      (with_reducible refine (H18y.out _ _ _ B4.iy).mono ?_)
      rintro e W1 ⟨u1, u2, rfl, In, h1⟩
      have B1 := B4.next h1
      obtain ⟨n1, k1, rfl, _⟩ := In.nodes.dat
      obtain ⟨n2, k2, rfl, _⟩ := In.matrix.dat
      refine hK.out _ _ B1.all (fun hHeld1 => ?_)
      clear hK K hHeld1
      try dsimp only [List.getElem_toArray, List.getElem_cons_succ, List.getElem_cons_zero, Act.put]
      try simp only [List.setIfInBounds_toArray, List.set_cons_zero, List.set_cons_succ]
      refine wpAnyH_ready (rs := [3]) (by kernel_rfl) (by simp) (AllReadyH.cons rfl (fun K hK => ?_) AllReadyH.nil)
      go_simp
      go_at_call 20
      (with_reducible refine (H20y.out _ _ _ _ _ In B1.iy).mono ?_)
      rintro e W3 ⟨rfl, h3⟩
      have B3 := B1.next h3
      replace In := HasIns.next In h3
      refine hK.out _ _ B3.all (fun hHeld3 => ?_)
      clear hK K hHeld3
      try dsimp only [List.getElem_toArray, List.getElem_cons_succ, List.getElem_cons_zero, Act.put]
      try simp only [List.setIfInBounds_toArray, List.set_cons_zero, List.set_cons_succ]
      refine wpAnyH_take (i := 4) (v := .bool false) rfl (by kernel_rfl) (by kernel_rfl) (by kernel_rfl) (fun _ _ _ h => h) (Or.inl ⟨by kernel_rfl, ?_⟩) B3.all ?_
      · (intro w0 hSw; (try dsimp only at hSw); obtain ⟨c0, c1, c2, c3, c4, c5, c6, c7, d0, d1, d2, d3, d4, d5, d6, d7, hLB⟩ := hSw; go_simp; try with_reducible rfl)
      try dsimp only [List.getElem_toArray, List.getElem_cons_succ, List.getElem_cons_zero, Act.put]
      try simp only [List.setIfInBounds_toArray, List.set_cons_zero, List.set_cons_succ]
      refine wpAnyH_take (i := 5) (v := ?_) rfl (by kernel_rfl) (by kernel_rfl) (by kernel_rfl) (fun _ _ _ h => h) (Or.inl ⟨by kernel_rfl, ?_⟩) B3.all ?_
      rotate_left
      · (intro w0 hSw; (try dsimp only at hSw); obtain ⟨c0, c1, c2, c3, c4, c5, c6, c7, d0, d1, d2, d3, d4, d5, d6, d7, hLB⟩ := hSw; go_simp; try with_reducible rfl)
      try dsimp only [List.getElem_toArray, List.getElem_cons_succ, List.getElem_cons_zero, Act.put]
      try simp only [List.setIfInBounds_toArray, List.set_cons_zero, List.set_cons_succ]
      refine wpAnyH_take (i := 6) (v := ?_) rfl (by kernel_rfl) (by kernel_rfl) (by kernel_rfl) (fun _ _ _ h => h) (Or.inl ⟨by kernel_rfl, ?_⟩) B3.all ?_
      rotate_left
      · (intro w0 hSw; (try dsimp only at hSw); obtain ⟨c0, c1, c2, c3, c4, c5, c6, c7, d0, d1, d2, d3, d4, d5, d6, d7, hLB⟩ := hSw; go_simp; try with_reducible rfl)
      try dsimp only [List.getElem_toArray, List.getElem_cons_succ, List.getElem_cons_zero, Act.put]
      try simp only [List.setIfInBounds_toArray, List.set_cons_zero, List.set_cons_succ]
      refine wpAnyH_ready (rs := [7]) (by kernel_rfl) (by simp) (AllReadyH.cons rfl (fun K hK => ?_) AllReadyH.nil)
      go_simp
      go_at_call 16
      (with_reducible refine (H16x.out _ B3.ix).mono ?_)
      rintro e W7 ⟨rfl, h7⟩
      have B7 := B3.next h7
      replace In := HasIns.next In h7
      refine hK.out _ _ B7.all (fun hHeld7 => ?_)
      clear hK K hHeld7
      try dsimp only [List.getElem_toArray, List.getElem_cons_succ, List.getElem_cons_zero, Act.put]
      try simp only [List.setIfInBounds_toArray, List.set_cons_zero, List.set_cons_succ]
      refine wpAnyH_take (i := 8) (v := .bool true) rfl (by kernel_rfl) (by kernel_rfl) (by kernel_rfl) (fun _ _ _ h => h) (Or.inl ⟨by kernel_rfl, ?_⟩) B7.all ?_
      · (intro w0 hSw; (try dsimp only at hSw); obtain ⟨c0, c1, c2, c3, c4, c5, c6, c7, d0, d1, d2, d3, d4, d5, d6, d7, hLB⟩ := hSw; go_simp; try with_reducible rfl)
      try dsimp only [List.getElem_toArray, List.getElem_cons_succ, List.getElem_cons_zero, Act.put]
      try simp only [List.setIfInBounds_toArray, List.set_cons_zero, List.set_cons_succ]
      refine wpAnyH_take (i := 9) (v := ?_) rfl (by kernel_rfl) (by kernel_rfl) (by kernel_rfl) (fun _ _ _ h => h) (Or.inl ⟨by kernel_rfl, ?_⟩) B7.all ?_
      rotate_left
      · (intro w0 hSw; (try dsimp only at hSw); obtain ⟨c0, c1, c2, c3, c4, c5, c6, c7, d0, d1, d2, d3, d4, d5, d6, d7, hLB⟩ := hSw; go_simp; try with_reducible rfl)
      try dsimp only [List.getElem_toArray, List.getElem_cons_succ, List.getElem_cons_zero, Act.put]
      try simp only [List.setIfInBounds_toArray, List.set_cons_zero, List.set_cons_succ]
      refine wpAnyH_ready (rs := [10]) (by kernel_rfl) (by simp) (AllReadyH.cons rfl (fun K hK => ?_) AllReadyH.nil)
      go_simp
      go_at_call 16
      (with_reducible refine (H16y.out _ _ _ B7.iy).mono ?_)
      rintro e W10 ⟨rfl, h10⟩
      have B10 := B7.next h10
      replace In := HasIns.next In h10
      refine hK.out _ _ B10.all (fun hHeld10 => ?_)
      clear hK K hHeld10
      try dsimp only [List.getElem_toArray, List.getElem_cons_succ, List.getElem_cons_zero, Act.put]
      try simp only [List.setIfInBounds_toArray, List.set_cons_zero, List.set_cons_succ]
      refine wpAnyH_take (i := 11) (v := .bool false) rfl (by kernel_rfl) (by kernel_rfl) (by kernel_rfl) (fun _ _ _ h => h) (Or.inl ⟨by kernel_rfl, ?_⟩) B10.all ?_
      · (intro w0 hSw; (try dsimp only at hSw); obtain ⟨c0, c1, c2, c3, c4, c5, c6, c7, d0, d1, d2, d3, d4, d5, d6, d7, hLB⟩ := hSw; go_simp; try with_reducible rfl)
      try dsimp only [List.getElem_toArray, List.getElem_cons_succ, List.getElem_cons_zero, Act.put]
      try simp only [List.setIfInBounds_toArray, List.set_cons_zero, List.set_cons_succ]
      refine wpAnyH_take (i := 12) (v := .bool false) rfl (by kernel_rfl) (by kernel_rfl) (by kernel_rfl) (fun _ _ _ h => h) (Or.inl ⟨by kernel_rfl, ?_⟩) B10.all ?_
      · (intro w0 hSw; (try dsimp only at hSw); obtain ⟨c0, c1, c2, c3, c4, c5, c6, c7, d0, d1, d2, d3, d4, d5, d6, d7, hLB⟩ := hSw; go_simp; try with_reducible rfl)
      try dsimp only [List.getElem_toArray, List.getElem_cons_succ, List.getElem_cons_zero, Act.put]
      try simp only [List.setIfInBounds_toArray, List.set_cons_zero, List.set_cons_succ]
      refine wpAnyH_take (i := 13) (v := .bool false) rfl (by kernel_rfl) (by kernel_rfl) (by kernel_rfl) (fun _ _ _ h => h) (Or.inl ⟨by kernel_rfl, ?_⟩) B10.all ?_
      · (intro w0 hSw; (try dsimp only at hSw); obtain ⟨c0, c1, c2, c3, c4, c5, c6, c7, d0, d1, d2, d3, d4, d5, d6, d7, hLB⟩ := hSw; go_simp; try with_reducible rfl)
      try dsimp only [List.getElem_toArray, List.getElem_cons_succ, List.getElem_cons_zero, Act.put]
      try simp only [List.setIfInBounds_toArray, List.set_cons_zero, List.set_cons_succ]
      refine wpAnyH_take (i := 14) (v := .bool false) rfl (by kernel_rfl) (by kernel_rfl) (by kernel_rfl) (fun _ _ _ h => h) (Or.inl ⟨by kernel_rfl, ?_⟩) B10.all ?_
      · (intro w0 hSw; (try dsimp only at hSw); obtain ⟨c0, c1, c2, c3, c4, c5, c6, c7, d0, d1, d2, d3, d4, d5, d6, d7, hLB⟩ := hSw; go_simp; try with_reducible rfl)
      try dsimp only [List.getElem_toArray, List.getElem_cons_succ, List.getElem_cons_zero, Act.put]
      try simp only [List.setIfInBounds_toArray, List.set_cons_zero, List.set_cons_succ]
      refine wpAnyH_take (i := 15) (v := ?_) rfl (by kernel_rfl) (by kernel_rfl) (by kernel_rfl) (fun _ _ _ h => h) (Or.inl ⟨by kernel_rfl, ?_⟩) B10.all ?_
      rotate_left
      · (intro w0 hSw; (try dsimp only at hSw); obtain ⟨c0, c1, c2, c3, c4, c5, c6, c7, d0, d1, d2, d3, d4, d5, d6, d7, hLB⟩ := hSw; go_simp; try with_reducible rfl)
      try dsimp only [List.getElem_toArray, List.getElem_cons_succ, List.getElem_cons_zero, Act.put]
      try simp only [List.setIfInBounds_toArray, List.set_cons_zero, List.set_cons_succ]
      refine wpAnyH_take (i := 16) (v := ?_) rfl (by kernel_rfl) (by kernel_rfl) (by kernel_rfl) (fun _ _ _ h => h) (Or.inl ⟨by kernel_rfl, ?_⟩) B10.all ?_
      rotate_left
      · (intro w0 hSw; (try dsimp only at hSw); obtain ⟨c0, c1, c2, c3, c4, c5, c6, c7, d0, d1, d2, d3, d4, d5, d6, d7, hLB⟩ := hSw; go_simp; try with_reducible rfl)
      try dsimp only [List.getElem_toArray, List.getElem_cons_succ, List.getElem_cons_zero, Act.put]
      try simp only [List.setIfInBounds_toArray, List.set_cons_zero, List.set_cons_succ]
      refine wpAnyH_ready (rs := [17]) (by kernel_rfl) (by simp) (AllReadyH.cons rfl (fun K hK => ?_) AllReadyH.nil)
      go_simp
      go_at_call 20
      (with_reducible refine (H20x.out _ B10.ix).mono ?_)
      rintro e W17 ⟨rfl, h17⟩
      have B17 := B10.next h17
      replace In := HasIns.next In h17
      refine hK.out _ _ B17.all (fun hHeld17 => ?_)
      clear hK K hHeld17
      try dsimp only [List.getElem_toArray, List.getElem_cons_succ, List.getElem_cons_zero, Act.put]
      try simp only [List.setIfInBounds_toArray, List.set_cons_zero, List.set_cons_succ]
      refine wpAnyH_take (i := 18) (v := .bool false) rfl (by kernel_rfl) (by kernel_rfl) (by kernel_rfl) (fun _ _ _ h => h) (Or.inl ⟨by kernel_rfl, ?_⟩) B17.all ?_
      · (intro w0 hSw; (try dsimp only at hSw); obtain ⟨c0, c1, c2, c3, c4, c5, c6, c7, d0, d1, d2, d3, d4, d5, d6, d7, hLB⟩ := hSw; go_simp; try with_reducible rfl)
      try dsimp only [List.getElem_toArray, List.getElem_cons_succ, List.getElem_cons_zero, Act.put]
      try simp only [List.setIfInBounds_toArray, List.set_cons_zero, List.set_cons_succ]
      refine wpAnyH_take (i := 19) (v := .bool false) rfl (by kernel_rfl) (by kernel_rfl) (by kernel_rfl) (fun _ _ _ h => h) (Or.inl ⟨by kernel_rfl, ?_⟩) B17.all ?_
      · (intro w0 hSw; (try dsimp only at hSw); obtain ⟨c0, c1, c2, c3, c4, c5, c6, c7, d0, d1, d2, d3, d4, d5, d6, d7, hLB⟩ := hSw; go_simp; try with_reducible rfl)
      try dsimp only [List.getElem_toArray, List.getElem_cons_succ, List.getElem_cons_zero, Act.put]
      try simp only [List.setIfInBounds_toArray, List.set_cons_zero, List.set_cons_succ]
      refine wpAnyH_done (by kernel_rfl) ?_ _
      try dsimp only [List.getElem_toArray, List.getElem_cons_succ, List.getElem_cons_zero, Act.put]
      try simp only [List.setIfInBounds_toArray, List.set_cons_zero, List.set_cons_succ]
      have RR := Lib.hid B17
      clear B17
      go_wp2
      go_meet
      exact ⟨RR.out, rfl⟩
    | false =>
      refine wp_region_held_drew (S := LawSQ w x (.slice an L cn) (.slice am M cm) bq y (.slice bn L2 dn) (.slice bm M2 dm)) (by kernel_rfl) HQ.out.drew.all (fun hHeld0 => ?_)
      have B4 := HQ.out.drew
      clear hHeld0
      generalize V.drew = W4 at *
      refine wpAnyH_take (i := 0) (v := ?_) rfl (by kernel_rfl) (by kernel_rfl) (by kernel_rfl) (fun _ _ _ h => h) (Or.inl ⟨by kernel_rfl, ?_⟩) B4.all ?_
      rotate_left
      · (intro w0 hSw; (try dsimp only at hSw); obtain ⟨c0, c1, c2, c3, c4, c5, c6, c7, d0, d1, d2, d3, d4, d5, d6, d7, hLB⟩ := hSw; go_simp; try with_reducible rfl)
      try dsimp only [List.getElem_toArray, List.getElem_cons_succ, List.getElem_cons_zero, Act.put]
      try simp only [List.setIfInBounds_toArray, List.set_cons_zero, List.set_cons_succ]
      refine wpAnyH_take (i := 2) (v := ?_) rfl (by kernel_rfl) (by kernel_rfl) (by kernel_rfl) (fun _ _ _ h => h) (Or.inl ⟨by kernel_rfl, ?_⟩) B4.all ?_
      rotate_left
      · (intro w0 hSw; (try dsimp only at hSw); obtain ⟨c0, c1, c2, c3, c4, c5, c6, c7, d0, d1, d2, d3, d4, d5, d6, d7, hLB⟩ := hSw; go_simp; try with_reducible rfl)
      try dsimp only [List.getElem_toArray, List.getElem_cons_succ, List.getElem_cons_zero, Act.put]
      try simp only [List.setIfInBounds_toArray, List.set_cons_zero, List.set_cons_succ]
      refine wpAnyH_ready (rs := [1]) (by kernel_rfl) (by simp) (AllReadyH.cons rfl (fun K hK => ?_) AllReadyH.nil)
      go_simp
      go_at_call 18
      (with_reducible refine (H18y.out _ _ _ B4.iy).mono ?_)
      rintro e W1 ⟨u1, u2, rfl, In, h1⟩
      have B1 := B4.next h1
      obtain ⟨n1, k1, rfl, _⟩ := In.nodes.dat
      obtain ⟨n2, k2, rfl, _⟩ := In.matrix.dat
      refine hK.out _ _ B1.all (fun hHeld1 => ?_)
      clear hK K hHeld1
      try dsimp only [List.getElem_toArray, List.getElem_cons_succ, List.getElem_cons_zero, Act.put]
      try simp only [List.setIfInBounds_toArray, List.set_cons_zero, List.set_cons_succ]
      refine wpAnyH_ready (rs := [3]) (by kernel_rfl) (by simp) (AllReadyH.cons rfl (fun K hK => ?_) AllReadyH.nil)
      go_simp
      go_at_call 20
      (with_reducible refine (H20y.out _ _ _ _ _ In B1.iy).mono ?_)
      rintro e W3 ⟨rfl, h3⟩
      have B3 := B1.next h3
      replace In := HasIns.next In h3
      refine hK.out _ _ B3.all (fun hHeld3 => ?_)
      clear hK K hHeld3
      try dsimp only [List.getElem_toArray, List.getElem_cons_succ, List.getElem_cons_zero, Act.put]
      try simp only [List.setIfInBounds_toArray, List.set_cons_zero, List.set_cons_succ]
      refine wpAnyH_take (i := 4) (v := .bool false) rfl (by kernel_rfl) (by kernel_rfl) (by kernel_rfl) (fun _ _ _ h => h) (Or.inl ⟨by kernel_rfl, ?_⟩) B3.all ?_
      · (intro w0 hSw; (try dsimp only at hSw); obtain ⟨c0, c1, c2, c3, c4, c5, c6, c7, d0, d1, d2, d3, d4, d5, d6, d7, hLB⟩ := hSw; go_simp; try with_reducible rfl)
      try dsimp only [List.getElem_toArray, List.getElem_cons_succ, List.getElem_cons_zero, Act.put]
      try simp only [List.setIfInBounds_toArray, List.set_cons_zero, List.set_cons_succ]
      refine wpAnyH_take (i := 5) (v := ?_) rfl (by kernel_rfl) (by kernel_rfl) (by kernel_rfl) (fun _ _ _ h => h) (Or.inl ⟨by kernel_rfl, ?_⟩) B3.all ?_
      rotate_left
      · (intro w0 hSw; (try dsimp only at hSw); obtain ⟨c0, c1, c2, c3, c4, c5, c6, c7, d0, d1, d2, d3, d4, d5, d6, d7, hLB⟩ := hSw; go_simp; try with_reducible rfl)
      try dsimp only [List.getElem_toArray, List.getElem_cons_succ, List.getElem_cons_zero, Act.put]
      try simp only [List.setIfInBounds_toArray, List.set_cons_zero, List.set_cons_succ]
      refine wpAnyH_take (i := 6) (v := ?_) rfl (by kernel_rfl) (by kernel_rfl) (by kernel_rfl) (fun _ _ _ h => h) (Or.inl ⟨by kernel_rfl, ?_⟩) B3.all ?_
      rotate_left
      · (intro w0 hSw; (try dsimp only at hSw); obtain ⟨c0, c1, c2, c3, c4, c5, c6, c7, d0, d1, d2, d3, d4, d5, d6, d7, hLB⟩ := hSw; go_simp; try with_reducible rfl)
      try dsimp only [List.getElem_toArray, List.getElem_cons_succ, List.getElem_cons_zero, Act.put]
      try simp only [List.setIfInBounds_toArray, List.set_cons_zero, List.set_cons_succ]
      refine wpAnyH_ready (rs := [7]) (by kernel_rfl) (by simp) (AllReadyH.cons rfl (fun K hK => ?_) AllReadyH.nil)
      go_simp
      go_at_call 16
      (with_reducible refine (H16x.out _ B3.ix).mono ?_)
      rintro e W7 ⟨rfl, h7⟩
      have B7 := B3.next h7
      replace In := HasIns.next In h7
      refine hK.out _ _ B7.all (fun hHeld7 => ?_)
      clear hK K hHeld7
      try dsimp only [List.getElem_toArray, List.getElem_cons_succ, List.getElem_cons_zero, Act.put]
      try simp only [List.setIfInBounds_toArray, List.set_cons_zero, List.set_cons_succ]
      refine wpAnyH_take (i := 8) (v := .bool false) rfl (by kernel_rfl) (by kernel_rfl) (by kernel_rfl) (fun _ _ _ h => h) (Or.inl ⟨by kernel_rfl, ?_⟩) B7.all ?_
      · (intro w0 hSw; (try dsimp only at hSw); obtain ⟨c0, c1, c2, c3, c4, c5, c6, c7, d0, d1, d2, d3, d4, d5, d6, d7, hLB⟩ := hSw; go_simp; try with_reducible rfl)
      try dsimp only [List.getElem_toArray, List.getElem_cons_succ, List.getElem_cons_zero, Act.put]
      try simp only [List.setIfInBounds_toArray, List.set_cons_zero, List.set_cons_succ]
      refine wpAnyH_take (i := 9) (v := undef) rfl (by kernel_rfl) (by kernel_rfl) (by kernel_rfl) (fun _ _ _ h => h) (Or.inr ⟨by kernel_rfl, rfl⟩) B7.all ?_
      try dsimp only [List.getElem_toArray, List.getElem_cons_succ, List.getElem_cons_zero, Act.put]
      try simp only [List.setIfInBounds_toArray, List.set_cons_zero, List.set_cons_succ]
      refine wpAnyH_take (i := 10) (v := undef) rfl (by kernel_rfl) (by kernel_rfl) (by kernel_rfl) (fun _ _ _ h => h) (Or.inr ⟨by kernel_rfl, rfl⟩) B7.all ?_
      try dsimp only [List.getElem_toArray, List.getElem_cons_succ, List.getElem_cons_zero, Act.put]
      try simp only [List.setIfInBounds_toArray, List.set_cons_zero, List.set_cons_succ]
      refine wpAnyH_take (i := 11) (v := undef) rfl (by kernel_rfl) (by kernel_rfl) (by kernel_rfl) (fun _ _ _ h => h) (Or.inr ⟨by kernel_rfl, rfl⟩) B7.all ?_
      try dsimp only [List.getElem_toArray, List.getElem_cons_succ, List.getElem_cons_zero, Act.put]
      try simp only [List.setIfInBounds_toArray, List.set_cons_zero, List.set_cons_succ]
      refine wpAnyH_take (i := 12) (v := .bool false) rfl (by kernel_rfl) (by kernel_rfl) (by kernel_rfl) (fun _ _ _ h => h) (Or.inl ⟨by kernel_rfl, ?_⟩) B7.all ?_
      · (intro w0 hSw; (try dsimp only at hSw); obtain ⟨c0, c1, c2, c3, c4, c5, c6, c7, d0, d1, d2, d3, d4, d5, d6, d7, hLB⟩ := hSw; go_simp; try with_reducible rfl)
      try dsimp only [List.getElem_toArray, List.getElem_cons_succ, List.getElem_cons_zero, Act.put]
      try simp only [List.setIfInBounds_toArray, List.set_cons_zero, List.set_cons_succ]
      refine wpAnyH_take (i := 13) (v := .bool false) rfl (by kernel_rfl) (by kernel_rfl) (by kernel_rfl) (fun _ _ _ h => h) (Or.inl ⟨by kernel_rfl, ?_⟩) B7.all ?_
      · (intro w0 hSw; (try dsimp only at hSw); obtain ⟨c0, c1, c2, c3, c4, c5, c6, c7, d0, d1, d2, d3, d4, d5, d6, d7, hLB⟩ := hSw; go_simp; try with_reducible rfl)
      try dsimp only [List.getElem_toArray, List.getElem_cons_succ, List.getElem_cons_zero, Act.put]
      try simp only [List.setIfInBounds_toArray, List.set_cons_zero, List.set_cons_succ]
      refine wpAnyH_take (i := 14) (v := .bool false) rfl (by kernel_rfl) (by kernel_rfl) (by kernel_rfl) (fun _ _ _ h => h) (Or.inl ⟨by kernel_rfl, ?_⟩) B7.all ?_
      · (intro w0 hSw; (try dsimp only at hSw); obtain ⟨c0, c1, c2, c3, c4, c5, c6, c7, d0, d1, d2, d3, d4, d5, d6, d7, hLB⟩ := hSw; go_simp; try with_reducible rfl)
      try dsimp only [List.getElem_toArray, List.getElem_cons_succ, List.getElem_cons_zero, Act.put]
      try simp only [List.setIfInBounds_toArray, List.set_cons_zero, List.set_cons_succ]
      refine wpAnyH_take (i := 15) (v := ?_) rfl (by kernel_rfl) (by kernel_rfl) (by kernel_rfl) (fun _ _ _ h => h) (Or.inl ⟨by kernel_rfl, ?_⟩) B7.all ?_
      rotate_left
      · (intro w0 hSw; (try dsimp only at hSw); obtain ⟨c0, c1, c2, c3, c4, c5, c6, c7, d0, d1, d2, d3, d4, d5, d6, d7, hLB⟩ := hSw; go_simp; try with_reducible rfl)
      try dsimp only [List.getElem_toArray, List.getElem_cons_succ, List.getElem_cons_zero, Act.put]
      try simp only [List.setIfInBounds_toArray, List.set_cons_zero, List.set_cons_succ]
      refine wpAnyH_take (i := 16) (v := ?_) rfl (by kernel_rfl) (by kernel_rfl) (by kernel_rfl) (fun _ _ _ h => h) (Or.inl ⟨by kernel_rfl, ?_⟩) B7.all ?_
      rotate_left
      · (intro w0 hSw; (try dsimp only at hSw); obtain ⟨c0, c1, c2, c3, c4, c5, c6, c7, d0, d1, d2, d3, d4, d5, d6, d7, hLB⟩ := hSw; go_simp; try with_reducible rfl)
      try dsimp only [List.getElem_toArray, List.getElem_cons_succ, List.getElem_cons_zero, Act.put]
      try simp only [List.setIfInBounds_toArray, List.set_cons_zero, List.set_cons_succ]
      refine wpAnyH_ready (rs := [17]) (by kernel_rfl) (by simp) (AllReadyH.cons rfl (fun K hK => ?_) AllReadyH.nil)
      go_simp
      go_at_call 20
      (with_reducible refine (H20x.out _ B7.ix).mono ?_)
      rintro e W17 ⟨rfl, h17⟩
      have B17 := B7.next h17
      replace In := HasIns.next In h17
      refine hK.out _ _ B17.all (fun hHeld17 => ?_)
      clear hK K hHeld17
      try dsimp only [List.getElem_toArray, List.getElem_cons_succ, List.getElem_cons_zero, Act.put]
      try simp only [List.setIfInBounds_toArray, List.set_cons_zero, List.set_cons_succ]
      refine wpAnyH_take (i := 18) (v := .bool false) rfl (by kernel_rfl) (by kernel_rfl) (by kernel_rfl) (fun _ _ _ h => h) (Or.inl ⟨by kernel_rfl, ?_⟩) B17.all ?_
      · (intro w0 hSw; (try dsimp only at hSw); obtain ⟨c0, c1, c2, c3, c4, c5, c6, c7, d0, d1, d2, d3, d4, d5, d6, d7, hLB⟩ := hSw; go_simp; try with_reducible rfl)
      try dsimp only [List.getElem_toArray, List.getElem_cons_succ, List.getElem_cons_zero, Act.put]
      try simp only [List.setIfInBounds_toArray, List.set_cons_zero, List.set_cons_succ]
      refine wpAnyH_take (i := 19) (v := .bool false) rfl (by kernel_rfl) (by kernel_rfl) (by kernel_rfl) (fun _ _ _ h => h) (Or.inl ⟨by kernel_rfl, ?_⟩) B17.all ?_
      · (intro w0 hSw; (try dsimp only at hSw); obtain ⟨c0, c1, c2, c3, c4, c5, c6, c7, d0, d1, d2, d3, d4, d5, d6, d7, hLB⟩ := hSw; go_simp; try with_reducible rfl)
      try dsimp only [List.getElem_toArray, List.getElem_cons_succ, List.getElem_cons_zero, Act.put]
      try simp only [List.setIfInBounds_toArray, List.set_cons_zero, List.set_cons_succ]
      refine wpAnyH_done (by kernel_rfl) ?_ _
      try dsimp only [List.getElem_toArray, List.getElem_cons_succ, List.getElem_cons_zero, Act.put]
      try simp only [List.setIfInBounds_toArray, List.set_cons_zero, List.set_cons_succ]
      have RR := Lib.hid B17
      clear B17
      go_wp2
      go_meet
      exact ⟨RR.out, rfl⟩
  case rest =>
    obtain ⟨hQ, rfl⟩ := hcut
    obtain ⟨W5, rfl⟩ : ∃ W, W = wc := ⟨_, rfl⟩
    have Q5 := Lib.hid hQ
    obtain ⟨c0, c1, c2, c3, c4, c5, c6, c7, -⟩ := hQ.all
    clear hQ HQ H18y H20y H20x H16x H16y HWN
    go_wp2_with (fail)
    (with_reducible refine (H11x.out _ Q5.out.ix).mono ?_)
    rintro e w6 ⟨v6, rfl, hF6, hb6⟩
    have Q6 := Lib.hid (Q5.out.next hb6)
    have F6 := Lib.hid hF6
    obtain ⟨fo, fc, rfl⟩ := hF6.len
    clear c0 c1 c2 c3 c4 c5 c6 c7 hb6 hF6 Q5 H11x
    obtain ⟨-, -, -, -, -, -, -, -, d0, d1, d2, d3, d4, d5, d6, d7, -⟩ := Q6.out.all
    go_wp2_with (fail)
    (with_reducible refine (H11y.out _ _ _ Q6.out.iy).mono ?_)
    rintro e w7 ⟨v7, rfl, hF7, hb7⟩
    have Q7 := Lib.hid (Q6.out.next hb7)
    have F7 := Lib.hid (F6.out.next hb7)
    have G7 := Lib.hid hF7
    obtain ⟨go, gc, rfl⟩ := hF7.len
    clear d0 d1 d2 d3 d4 d5 d6 d7 hb7 hF7 Q6 F6 H11y
    have hcx := HCX.out
    have hcy := HCY.out
    obtain ⟨nx, hnx⟩ : ∃ n, lx.length = n := ⟨_, rfl⟩
    obtain ⟨ny, hny⟩ : ∃ n, ly.length = n := ⟨_, rfl⟩
    rw [hnx] at hcx F7 ⊢
    rw [hny] at hcy G7 ⊢
    have HNX := Lib.hid hnx
    have HNY := Lib.hid hny
    clear hnx hny
    go_wp2
    go_loopw [6, 7] (fun k i wr => ∃ (a b : Nat), a ≤ ny ∧ b ≤ nx ∧ i = .int .i64 (a : Int) ∧ k = .int .i64 (b : Int) ∧ Hid ((ly.drop a).Sublist (lx.drop b)) ∧ Hid (LawBQ w x (.slice an L cn) (.slice am M cm) bq y (.slice bn L2 dn) (.slice bm M2 dm) wr) ∧ Hid (HasFts wr (.slice fo nx fc) lx) ∧ Hid (HasFts wr (.slice go ny gc) ly)) (fun _ i _ => ny - (intOf i).toNat)
    case atStart => exact ⟨0, 0, Nat.zero_le _, Nat.zero_le _, rfl, rfl, HSUB.out, Q7, F7, G7⟩
    case round =>
      obtain ⟨a, b, ha, hb, rfl, rfl, hS, hQ, hF, hG⟩ := hrel
      clear Q7 F7 G7
      by_cases hlt : a < ny
      · obtain ⟨q, hq⟩ : ∃ q, ly[a]? = some q := ⟨_, List.getElem?_eq_getElem (by have := HNY.out; omega)⟩
        have HQQ := Lib.hid hq
        obtain ⟨g, gof, rfl, hga⟩ : ∃ g gof, go = some ⟨g, gof, none⟩ ∧ Hid (FtAt wr g gof ly) := by
          rcases hG.out with ⟨h0, _⟩ | ⟨g, gof, gcap, e, _, _, h⟩
          · rw [h0] at hq; simp at hq
          · injection e with e1 e2 e3
            exact ⟨g, gof, e1, h⟩
        have hai : (a : Int) < (ny : Int) := by omega
        clear hq
        go_wp2
        go_loopw [6] (fun k ws => ∃ b : Nat, b ≤ nx ∧ k = .int .i64 (b : Int) ∧ Hid ((ly.drop a).Sublist (lx.drop b)) ∧ Hid (LawBQ w x (.slice an L cn) (.slice am M cm) bq y (.slice bn L2 dn) (.slice bm M2 dm) ws) ∧ Hid (HasFts ws (.slice fo nx fc) lx) ∧ Hid (HasFts ws (.slice (some ⟨g, gof, none⟩) ny gc) ly) ∧ Hid (FtAt ws g gof ly)) (fun k _ => nx - (intOf k).toNat)
        case atStart => exact ⟨b, hb, rfl, hS, hQ, hF, hG, hga⟩
        case round =>
          obtain ⟨c, hc, rfl, hS2, hQ2, hF2, hG2, hga2⟩ := hrel
          clear hS hQ hF hG hga
          by_cases hck : c < nx
          · obtain ⟨p, hp⟩ : ∃ p, lx[c]? = some p := ⟨_, List.getElem?_eq_getElem (by have := HNX.out; omega)⟩
            obtain ⟨f, fof, rfl, hfa⟩ : ∃ f fof, fo = some ⟨f, fof, none⟩ ∧ FtAt wr f fof lx := by
              rcases hF2.out with ⟨h0, _⟩ | ⟨g, gof, gcap, e, _, _, h⟩
              · rw [h0] at hp; simp at hp
              · injection e with e1 e2 e3
                exact ⟨g, gof, e1, h⟩
            obtain ⟨x0, x1⟩ := hfa.2 c p hp
            obtain ⟨y0, y1⟩ := hga2.out.2 a q HQQ.out
            have hci : (c : Int) < (nx : Int) := by omega
            have HPP := Lib.hid hp
            clear hp hfa
            by_cases hpq : p = q
            · subst hpq
              have hcn : ((c : Int) == (nx : Int)) = false := nat_beq false (decide_eq_false (by omega))
              have HN := Lib.hid (sub_next hS2.out HQQ.out)
              clear HPP HQQ hS2
              go_wp2
              go_quiet (fail)
              go_wp2
              go_roundw
              case rel => exact ⟨a + 1, c, by omega, by omega, by go_num, rfl, HN, Lib.hid (hQ2.out.next (cbelow_drewN (Below.refl _ _) _)), Lib.hid (hF2.out.next (cbelow_drewN (Below.refl _ _) _)), Lib.hid (hG2.out.next (cbelow_drewN (Below.refl _ _) _))⟩
              case measure => simp [intOf]; omega
            · have HN := Lib.hid (sub_skip hS2.out HQQ.out HPP.out hpq)
              obtain ⟨p1, p2⟩ := p
              obtain ⟨q1, q2⟩ := q
              have hor : ((p1 : Int) == (q1 : Int)) = false ∨ ((p1 : Int) == (q1 : Int)) = true ∧ ((p2 : Int) == (q2 : Int)) = false := by
                by_cases h1 : p1 = q1
                · refine .inr ⟨nat_beq true (decide_eq_true h1), nat_beq false (decide_eq_false (fun h2 => hpq (by rw [h1, h2])))⟩
                · exact .inl (nat_beq false (decide_eq_false h1))
              dsimp only at x0 x1 y0 y1
              clear HPP HQQ hS2 hpq
              rcases hor with e1 | ⟨e1, e2⟩
              all_goals
                go_wp2
                go_quiet (fail)
                go_wp2
                go_roundw
                case rel => exact ⟨c + 1, by omega, by go_num, HN, Lib.hid (hQ2.out.next (cbelow_drewN (Below.refl _ _) _)), Lib.hid (hF2.out.next (cbelow_drewN (Below.refl _ _) _)), Lib.hid (hG2.out.next (cbelow_drewN (Below.refl _ _) _)), Lib.hid (hga2.out.next (cbelow_drewN (Below.refl _ _) _))⟩
                case measure => simp [intOf]; omega
          · have h1 := sub_end hS2.out (by rw [HNY.out]; exact hlt)
            rw [HNX.out] at h1
            omega
      · obtain rfl : a = ny := by omega
        have hsc := HSC.out
        obtain ⟨c0, c1, c2, c3, c4, c5, c6, c7, d0, d1, d2, d3, d4, d5, d6, d7, -⟩ := hQ.out.all
        have hL2 := HNL.out
        subst hL2
        go_wp2
        go_ret
        exact ⟨rfl, hQ.out.below⟩
theorem Try.CanonNormal_all (x : Ins) (vn vm : Value) (w : World) (hx : HasIns w vn vm x) (gx : ∀ d ∈ x.nodes, In64 d) :
    Calls Try.prog 5 #[insV x vn vm] w fun e w' => e = .returned (.bool true) ∧ Below w.heap.size w w' := by
  cases h1 : longB x with
  | true => exact Try.CanonNormal_long x vn vm w hx h1
  | false => exact Try.CanonNormal_calls x vn vm w hx gx h1
end Go.Proofs
