/- The law CanonChecks of layer 8, as a contract: it answers true at every instance. Conditions: none. -/
import Derived.Test.YtogpnkahgkidpaaCanonLaw
namespace Go.Proofs
open Go.RowKit Go.Shelf Go.Canon
attribute [local go_sem] Oper.semAt_some

theorem cret0 (n : Nat) : ((n : Int) == 0) = decide (n = 0) := nat_beq (b := 0) _ rfl
set_option maxRecDepth 100000 in
set_option maxHeartbeats 4000000 in
theorem Try.CanonChecks_calls (x : Ins) (vn vm : Value) (w : World) (hx : HasIns w vn vm x) :
    Calls Try.prog 3 #[insV x vn vm] w fun e w' => e = .returned (.bool true) ∧ Below w.heap.size w w' := by
  have HLONG := Lib.hid (fun W h => Try.llong_calls x vn vm W h)
  have HSH := Lib.hid (fun W => Try.shown_calls W)
  have HB := Lib.hid (LawB.new hx)
  cases hl : longB x with
  | true =>
    rw [hl] at HLONG
    obtain ⟨an, cn, rfl, _⟩ := hx.nodes.dat
    obtain ⟨am, cm, rfl, _⟩ := hx.matrix.dat
    unfold insV at *
    clear hx hl
    generalize x.nodes.length = L at *
    generalize x.matrix.length = M at *
    go_enter Try.func3, Try.ntmps3
    go_wp2_with (fail)
    (with_reducible refine (HLONG.out _ HB.out.ins).mono ?_)
    rintro e w1 ⟨rfl, hb1⟩
    have hB1 := (below_box _ _).trans (hb1.mono (below_box _ _).size)
    clear hb1 HLONG
    go_wp2_with (fail)
    (with_reducible refine (HSH.out _).mono ?_)
    rintro e w2 ⟨rfl, hb2⟩
    go_wp2
    go_ret
    exact ⟨rfl, hB1.trans (hb2.mono hB1.size)⟩
  | false =>
    rw [hl] at HLONG
    obtain ⟨b1, b2, b3⟩ := long_no hl
    have H11 := Lib.hid (fun W h => Try.L11 x vn vm W h b3 b1)
    have H14 := Lib.hid (fun v W h => Try.L14 x v vm W h b3)
    have H15 := Lib.hid (fun W h => Try.L15 x vn vm W h b1)
    have H16 := Lib.hid (fun W h => Try.well_calls x vn vm W h b3 (by omega))
    have hcl := check_len nameB x b1
    have H13 := Lib.hid (fun v W h => Try.L13 v (checkL nameB x) W h (by omega))
    have H12 := Lib.hid (fun v u W h1 h2 => Try.rfaults_calls v u (checkL nameB x) (checkL nameB x) W (by omega) (by omega) h1 h2)
    rw [decide_eq_true rfl] at H12
    have HWL := Lib.hid (well_len nameB x)
    generalize wellB nameB x = wb at *
    obtain ⟨cl, hcl'⟩ : ∃ cl, checkL nameB x = cl := ⟨_, rfl⟩
    rw [hcl'] at H11 H14 H13 H12 HWL
    obtain ⟨an, cn, rfl, _⟩ := hx.nodes.dat
    obtain ⟨am, cm, rfl, _⟩ := hx.matrix.dat
    unfold insV at *
    clear hx hl hcl hcl' b1 b2 b3
    generalize x.nodes.length = L at *
    generalize x.matrix.length = M at *
    go_enter Try.func3, Try.ntmps3
    go_wp2_with (fail)
    (with_reducible refine (HLONG.out _ HB.out.ins).mono ?_)
    rintro e w1 ⟨rfl, hb1⟩
    have B1 := Lib.hid (HB.out.next hb1)
    clear hb1 HLONG HB
    go_wp2_with (fail)
    (with_reducible refine (HSH.out _).mono ?_)
    rintro e w2 ⟨rfl, hb2⟩
    have B2 := Lib.hid (B1.out.next hb2)
    obtain ⟨c0, c1, c2, c3, c4, c5, c6, c7⟩ := B2.out.cells
    clear hb2 B1 HSH
    go_wp2_with (fail)
    (with_reducible refine (H11.out _ B2.out.ins).mono ?_)
    rintro e w3 ⟨v3, rfl, hF, hb3⟩
    have B3 := Lib.hid (B2.out.next hb3)
    have F3 := Lib.hid hF
    clear c0 c1 c2 c3 c4 c5 c6 c7
    obtain ⟨fo, fc, rfl⟩ := hF.len
    clear hb3 B2 hF H11
    generalize cl.length = n at *
    go_wp2
    refine wp_region_held_drew (S := LawS w x (.slice an L cn) (.slice am M cm)) (by kernel_rfl) B3.out.drew.all (fun hHeld0 => ?_)
    have B4 := B3.out.drew
    have F4 := F3.out.drew
    clear hHeld0
    generalize w3.drew = W4 at *
    refine wpAnyH_take (i := 0) (v := ?_) rfl (by kernel_rfl) (by kernel_rfl) (by kernel_rfl) (fun _ _ _ h => h) (Or.inl ⟨by kernel_rfl, ?_⟩) B4.all ?_
    rotate_left
    · (intro w0 hSw; (try dsimp only at hSw); obtain ⟨c0, c1, c2, c3, c4, c5, c6, c7, hLB⟩ := hSw; go_simp; try with_reducible rfl)
    try dsimp only [List.getElem_toArray, List.getElem_cons_succ, List.getElem_cons_zero, Act.put]
    try simp only [List.setIfInBounds_toArray, List.set_cons_zero, List.set_cons_succ]
    refine wpAnyH_take (i := 2) (v := ?_) rfl (by kernel_rfl) (by kernel_rfl) (by kernel_rfl) (fun _ _ _ h => h) (Or.inl ⟨by kernel_rfl, ?_⟩) B4.all ?_
    rotate_left
    · (intro w0 hSw; (try dsimp only at hSw); obtain ⟨c0, c1, c2, c3, c4, c5, c6, c7, hLB⟩ := hSw; go_simp; try with_reducible rfl)
    try dsimp only [List.getElem_toArray, List.getElem_cons_succ, List.getElem_cons_zero, Act.put]
    try simp only [List.setIfInBounds_toArray, List.set_cons_zero, List.set_cons_succ]
    refine wpAnyH_ready (rs := [1]) (by kernel_rfl) (by simp) (AllReadyH.cons rfl (fun K hK => ?_) AllReadyH.nil)
    go_simp
    go_at_call 13
    (with_reducible refine (H13.out _ _ F4).mono ?_)
    rintro e W1 ⟨va, rfl, Fa, h1⟩
    have B1 := B4.next h1
    replace F4 := HasFts.next F4 h1
    obtain ⟨ao, ac, rfl⟩ := HasFts.len Fa
    refine hK.out _ _ B1.all (fun hHeld1 => ?_)
    clear hK K hHeld1
    try dsimp only [List.getElem_toArray, List.getElem_cons_succ, List.getElem_cons_zero, Act.put]
    try simp only [List.setIfInBounds_toArray, List.set_cons_zero, List.set_cons_succ]
    refine wpAnyH_ready (rs := [3]) (by kernel_rfl) (by simp) (AllReadyH.cons rfl (fun K hK => ?_) AllReadyH.nil)
    go_simp
    go_at_call 15
    (with_reducible refine (H15.out _ B1.ins).mono ?_)
    rintro e W3 ⟨vb, rfl, Ib, h3⟩
    have B3 := B1.next h3
    replace F4 := HasFts.next F4 h3
    replace Fa := HasFts.next Fa h3
    obtain ⟨bo, bc, rfl, _⟩ := Ib.nodes.dat
    refine hK.out _ _ B3.all (fun hHeld3 => ?_)
    clear hK K hHeld3
    try dsimp only [List.getElem_toArray, List.getElem_cons_succ, List.getElem_cons_zero, Act.put]
    try simp only [List.setIfInBounds_toArray, List.set_cons_zero, List.set_cons_succ]
    refine wpAnyH_ready (rs := [4]) (by kernel_rfl) (by simp) (AllReadyH.cons rfl (fun K hK => ?_) AllReadyH.nil)
    go_simp
    go_at_call 14
    (with_reducible refine (H14.out _ _ Ib).mono ?_)
    rintro e W4 ⟨vc, rfl, Fc, h4⟩
    have B4 := B3.next h4
    replace F4 := HasFts.next F4 h4
    replace Fa := HasFts.next Fa h4
    replace Ib := HasIns.next Ib h4
    obtain ⟨co, cc, rfl⟩ := HasFts.len Fc
    refine hK.out _ _ B4.all (fun hHeld4 => ?_)
    clear hK K hHeld4
    try dsimp only [List.getElem_toArray, List.getElem_cons_succ, List.getElem_cons_zero, Act.put]
    try simp only [List.setIfInBounds_toArray, List.set_cons_zero, List.set_cons_succ]
    refine wpAnyH_ready (rs := [5]) (by kernel_rfl) (by simp) (AllReadyH.cons rfl (fun K hK => ?_) AllReadyH.nil)
    go_simp
    go_at_call 12
    (with_reducible refine (H12.out _ _ _ Fa Fc).mono ?_)
    rintro e W5 ⟨rfl, h5⟩
    have B5 := B4.next h5
    replace F4 := HasFts.next F4 h5
    replace Fa := HasFts.next Fa h5
    replace Ib := HasIns.next Ib h5
    replace Fc := HasFts.next Fc h5
    refine hK.out _ _ B5.all (fun hHeld5 => ?_)
    clear hK K hHeld5
    try dsimp only [List.getElem_toArray, List.getElem_cons_succ, List.getElem_cons_zero, Act.put]
    try simp only [List.setIfInBounds_toArray, List.set_cons_zero, List.set_cons_succ]
    refine wpAnyH_take (i := 6) (v := ?_) rfl (by kernel_rfl) (by kernel_rfl) (by kernel_rfl) (fun _ _ _ h => h) (Or.inl ⟨by kernel_rfl, ?_⟩) B5.all ?_
    rotate_left
    · (intro w0 hSw; (try dsimp only at hSw); obtain ⟨c0, c1, c2, c3, c4, c5, c6, c7, hLB⟩ := hSw; go_simp; try with_reducible rfl)
    try dsimp only [List.getElem_toArray, List.getElem_cons_succ, List.getElem_cons_zero, Act.put]
    try simp only [List.setIfInBounds_toArray, List.set_cons_zero, List.set_cons_succ]
    refine wpAnyH_take (i := 7) (v := ?_) rfl (by kernel_rfl) (by kernel_rfl) (by kernel_rfl) (fun _ _ _ h => h) (Or.inl ⟨by kernel_rfl, ?_⟩) B5.all ?_
    rotate_left
    · (intro w0 hSw; (try dsimp only at hSw); obtain ⟨c0, c1, c2, c3, c4, c5, c6, c7, hLB⟩ := hSw; go_simp; try with_reducible rfl)
    try dsimp only [List.getElem_toArray, List.getElem_cons_succ, List.getElem_cons_zero, Act.put]
    try simp only [List.setIfInBounds_toArray, List.set_cons_zero, List.set_cons_succ]
    refine wpAnyH_take (i := 9) (v := ?_) rfl (by kernel_rfl) (by kernel_rfl) (by kernel_rfl) (fun _ _ _ h => h) (Or.inl ⟨by kernel_rfl, ?_⟩) B5.all ?_
    rotate_left
    · (intro w0 hSw; (try dsimp only at hSw); obtain ⟨c0, c1, c2, c3, c4, c5, c6, c7, hLB⟩ := hSw; go_simp; try with_reducible rfl)
    try dsimp only [List.getElem_toArray, List.getElem_cons_succ, List.getElem_cons_zero, Act.put]
    try simp only [List.setIfInBounds_toArray, List.set_cons_zero, List.set_cons_succ]
    refine wpAnyH_take (i := 10) (v := ?_) rfl (by kernel_rfl) (by kernel_rfl) (by kernel_rfl) (fun _ _ _ h => h) (Or.inl ⟨by kernel_rfl, ?_⟩) B5.all ?_
    rotate_left
    · (intro w0 hSw; (try dsimp only at hSw); obtain ⟨c0, c1, c2, c3, c4, c5, c6, c7, hLB⟩ := hSw; go_simp; try with_reducible rfl)
    try dsimp only [List.getElem_toArray, List.getElem_cons_succ, List.getElem_cons_zero, Act.put]
    try simp only [List.setIfInBounds_toArray, List.set_cons_zero, List.set_cons_succ]
    refine wpAnyH_take (i := 11) (v := .bool (decide (n = 0))) rfl (by kernel_rfl) (by kernel_rfl) (by kernel_rfl) (fun _ _ _ h => h) (Or.inl ⟨by kernel_rfl, ?_⟩) B5.all ?_
    · (intro w0 hSw; (try dsimp only at hSw); obtain ⟨c0, c1, c2, c3, c4, c5, c6, c7, hLB⟩ := hSw; go_simp; exact cret0 n)
    try dsimp only [List.getElem_toArray, List.getElem_cons_succ, List.getElem_cons_zero, Act.put]
    try simp only [List.setIfInBounds_toArray, List.set_cons_zero, List.set_cons_succ]
    refine wpAnyH_ready (rs := [8]) (by kernel_rfl) (by simp) (AllReadyH.cons rfl (fun K hK => ?_) AllReadyH.nil)
    go_simp
    go_at_call 16
    (with_reducible refine (H16.out _ B5.ins).mono ?_)
    rintro e W8 ⟨rfl, h8⟩
    have B8 := B5.next h8
    replace F4 := HasFts.next F4 h8
    replace Fa := HasFts.next Fa h8
    replace Ib := HasIns.next Ib h8
    replace Fc := HasFts.next Fc h8
    refine hK.out _ _ B8.all (fun hHeld8 => ?_)
    clear hK K hHeld8
    try dsimp only [List.getElem_toArray, List.getElem_cons_succ, List.getElem_cons_zero, Act.put]
    try simp only [List.setIfInBounds_toArray, List.set_cons_zero, List.set_cons_succ]
    refine wpAnyH_take (i := 12) (v := .bool true) rfl (by kernel_rfl) (by kernel_rfl) (by kernel_rfl) (fun _ _ _ h => h) (Or.inl ⟨by kernel_rfl, ?_⟩) B8.all ?_
    · (intro w0 hSw; (try dsimp only at hSw); obtain ⟨c0, c1, c2, c3, c4, c5, c6, c7, hLB⟩ := hSw; go_simp; simp [HWL.out])
    try dsimp only [List.getElem_toArray, List.getElem_cons_succ, List.getElem_cons_zero, Act.put]
    try simp only [List.setIfInBounds_toArray, List.set_cons_zero, List.set_cons_succ]
    refine wpAnyH_take (i := 13) (v := ?_) rfl (by kernel_rfl) (by kernel_rfl) (by kernel_rfl) (fun _ _ _ h => h) (Or.inl ⟨by kernel_rfl, ?_⟩) B8.all ?_
    rotate_left
    · (intro w0 hSw; (try dsimp only at hSw); obtain ⟨c0, c1, c2, c3, c4, c5, c6, c7, hLB⟩ := hSw; go_simp; try with_reducible rfl)
    try dsimp only [List.getElem_toArray, List.getElem_cons_succ, List.getElem_cons_zero, Act.put]
    try simp only [List.setIfInBounds_toArray, List.set_cons_zero, List.set_cons_succ]
    refine wpAnyH_take (i := 14) (v := ?_) rfl (by kernel_rfl) (by kernel_rfl) (by kernel_rfl) (fun _ _ _ h => h) (Or.inl ⟨by kernel_rfl, ?_⟩) B8.all ?_
    rotate_left
    · (intro w0 hSw; (try dsimp only at hSw); obtain ⟨c0, c1, c2, c3, c4, c5, c6, c7, hLB⟩ := hSw; go_simp; try with_reducible rfl)
    try dsimp only [List.getElem_toArray, List.getElem_cons_succ, List.getElem_cons_zero, Act.put]
    try simp only [List.setIfInBounds_toArray, List.set_cons_zero, List.set_cons_succ]
    refine wpAnyH_done (by kernel_rfl) ?_ _
    try dsimp only [List.getElem_toArray, List.getElem_cons_succ, List.getElem_cons_zero, Act.put]
    try simp only [List.setIfInBounds_toArray, List.set_cons_zero, List.set_cons_succ]
    go_wp2
    go_ret
    exact ⟨rfl, B8.below⟩
theorem Try.CanonChecks_all (x : Ins) (vn vm : Value) (w : World) (hx : HasIns w vn vm x) (_ : ∀ d ∈ x.nodes, In64 d) :
    Calls Try.prog 3 #[insV x vn vm] w fun e w' => e = .returned (.bool true) ∧ Below w.heap.size w w' := Try.CanonChecks_calls x vn vm w hx
end Go.Proofs
