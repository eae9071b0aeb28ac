/- The law PlanFinds of layer 9, as a contract: it answers true at every plan, and every two numbers. No condition. -/
import Derived.Test.YtbnefehfkeonhaaPlanLaw
namespace Go.Proofs
open Go.RowKit Go.Plans
attribute [local go_sem] Oper.semAt_some
set_option maxRecDepth 100000 in
set_option maxHeartbeats 4000000 in
theorem Try.PlanFinds_long (v : Value) (rr : Rts) (x st : Int) (w : World) (hv : HasRts w v rr) (h : longR rr = true ∨ longR rr = false ∧ 50 < x ∧ x ≤ 400) :
    Calls Try.prog 4 #[planV v, .int .i64 x, .int .i64 st] w fun e w' => e = .returned (.bool true) ∧ Below w.heap.size w w' := by
  have HLX := Lib.hid (fun W h => Try.P8 v rr W h)
  have HSH := Lib.hid (fun W => Try.P9 W)
  have HB := Lib.hid (PB.one hv)
  obtain ⟨an, cn, rfl⟩ := hv.len
  unfold planV
  clear hv
  rcases h with hl | ⟨hl, h1, h2⟩
  · rw [hl] at HLX
    clear hl
    generalize rr.length = L at *
    go_enter Try.func4, Try.ntmps4
    go_wp2_with (fail)
    (with_reducible refine (HLX.out _ HB.out.iv).mono ?_)
    rintro e w1 ⟨rfl, hb1⟩
    have B1 := Lib.hid (HB.out.next hb1)
    clear hb1 HLX HB
    go_wp2_with (fail)
    (with_reducible refine (HSH.out _).mono ?_)
    rintro e w2 ⟨rfl, hb2⟩
    have B2 := Lib.hid (B1.out.next hb2)
    go_wp2
    go_ret
    exact ⟨rfl, B2.out.below⟩
  · rw [hl] at HLX
    have d1 : decide (50 < x) = true := decide_eq_true h1
    have d2 : decide (x ≤ 400) = true := decide_eq_true h2
    clear hl
    generalize rr.length = L at *
    go_enter Try.func4, Try.ntmps4
    go_wp2_with (fail)
    (with_reducible refine (HLX.out _ HB.out.iv).mono ?_)
    rintro e w1 ⟨rfl, hb1⟩
    have B1 := Lib.hid (HB.out.next hb1)
    clear hb1 HLX HB
    go_wp2_with (fail)
    (with_reducible refine (HSH.out _).mono ?_)
    rintro e w2 ⟨rfl, hb2⟩
    have B2 := Lib.hid (B1.out.next hb2)
    go_wp2
    go_ret
    exact ⟨rfl, B2.out.below⟩
set_option maxRecDepth 100000 in
set_option maxHeartbeats 8000000 in
theorem Try.PlanFinds_low (v : Value) (rr : Rts) (x st : Int) (w : World) (hv : HasRts w v rr) (hl : longR rr = false) (h : x ≤ 50) :
    Calls Try.prog 4 #[planV v, .int .i64 x, .int .i64 st] w fun e w' => e = .returned (.bool true) ∧ Below w.heap.size w w' := by
  have HLX := Lib.hid (fun W h => Try.P8 v rr W h)
  rw [hl] at HLX
  have HSH := Lib.hid (fun W => Try.P9 W)
  have HB := Lib.hid (PB.one hv)
  have hf := Fit.of hl
  have H12 := Lib.hid (fun W h => Try.P12 v rr W h)
  have H19 := Lib.hid (fun W h => Try.P19 v rr st W h)
  have H20 := Lib.hid (fun W h => Try.P20 v rr st W hf h)
  have H22 := Lib.hid (fun W h => Try.P22 v rr x W (by have := hf.all; omega) h)
  have H23 := Lib.hid (fun W h => Try.P23 v rr x W hf h)
  have hcl := cntX_len rr x
  generalize fI (findR st rr) = I at *
  generalize fK (findR st rr) = K at *
  generalize fB (findR st rr) = Bo at *
  generalize cntX rr x = CL at *
  have H21 := Lib.hid (fun a b W h1 h2 => Try.P21 a b CL CL W (by omega) h1 h2)
  rw [decide_eq_true rfl] at H21
  have d1 : decide (50 < x) = false := decide_eq_false (by omega)
  obtain ⟨an, cn, rfl⟩ := hv.len
  unfold planV
  clear hv hl hf hcl
  generalize rr.length = L at *
  generalize CL.length = NL at *
  go_enter Try.func4, Try.ntmps4
  go_wp2_with (fail)
  (with_reducible refine (HLX.out _ HB.out.iv).mono ?_)
  rintro e w1 ⟨rfl, hb1⟩
  have B1 := Lib.hid (HB.out.next hb1)
  clear hb1 HLX HB
  go_wp2_with (fail)
  (with_reducible refine (HSH.out _).mono ?_)
  rintro e w2 ⟨rfl, hb2⟩
  have B2 := Lib.hid (B1.out.next hb2)
  have q2 := B2.out.ba.1
  clear hb2 HSH B1
  go_wp2_with (fail)
  (with_reducible refine (H19.out _ B2.out.iv).mono ?_)
  rintro e w3 ⟨rfl, hb3⟩
  have B3 := Lib.hid (B2.out.next hb3)
  have q3 := B3.out.ba.1
  clear hb3 B2 q2 H19
  go_wp2_with (fail)
  (with_reducible refine (H12.out _ B3.out.iv).mono ?_)
  rintro e w4 ⟨rfl, hb4⟩
  have B4 := Lib.hid (B3.out.next hb4)
  clear hb4 B3 q3
  go_wp2_with (fail)
  (with_reducible refine (H20.out _ B4.out.iv).mono ?_)
  rintro e w5 ⟨rfl, hb5⟩
  have B5 := Lib.hid (B4.out.next hb5)
  clear hb5 B4 H20
  go_wp2
  refine wp_region_held_drew (S := PS w w.heap.size w.heap.size w.heap.size (.slice an L cn) rr (.slice an L cn) rr (.slice an L cn) rr) (by kernel_rfl) B5.out.drew.all (fun hHeld0 => ?_)
  have B6 := B5.out.drew
  clear hHeld0
  generalize w5.drew = W6 at *
  refine wpAnyH_take (i := 0) (v := ?_) rfl (by kernel_rfl) (by kernel_rfl) (by kernel_rfl) (fun _ _ _ h => h) (Or.inl ⟨by kernel_rfl, ?_⟩) B6.all ?_
  rotate_left
  · (intro w0 hSw; (try dsimp only at hSw); obtain ⟨c0, c1, c2, hLB⟩ := hSw; go_simp; try with_reducible rfl)
  try dsimp only [List.getElem_toArray, List.getElem_cons_succ, List.getElem_cons_zero, Act.put]
  try simp only [List.setIfInBounds_toArray, List.set_cons_zero, List.set_cons_succ]
  refine wpAnyH_take (i := 1) (v := ?_) rfl (by kernel_rfl) (by kernel_rfl) (by kernel_rfl) (fun _ _ _ h => h) (Or.inl ⟨by kernel_rfl, ?_⟩) B6.all ?_
  rotate_left
  · (intro w0 hSw; (try dsimp only at hSw); obtain ⟨c0, c1, c2, hLB⟩ := hSw; go_simp; try with_reducible rfl)
  try dsimp only [List.getElem_toArray, List.getElem_cons_succ, List.getElem_cons_zero, Act.put]
  try simp only [List.setIfInBounds_toArray, List.set_cons_zero, List.set_cons_succ]
  refine wpAnyH_take (i := 3) (v := ?_) rfl (by kernel_rfl) (by kernel_rfl) (by kernel_rfl) (fun _ _ _ h => h) (Or.inl ⟨by kernel_rfl, ?_⟩) B6.all ?_
  rotate_left
  · (intro w0 hSw; (try dsimp only at hSw); obtain ⟨c0, c1, c2, hLB⟩ := hSw; go_simp; try with_reducible rfl)
  try dsimp only [List.getElem_toArray, List.getElem_cons_succ, List.getElem_cons_zero, Act.put]
  try simp only [List.setIfInBounds_toArray, List.set_cons_zero, List.set_cons_succ]
  refine wpAnyH_take (i := 5) (v := ?_) rfl (by kernel_rfl) (by kernel_rfl) (by kernel_rfl) (fun _ _ _ h => h) (Or.inl ⟨by kernel_rfl, ?_⟩) B6.all ?_
  rotate_left
  · (intro w0 hSw; (try dsimp only at hSw); obtain ⟨c0, c1, c2, hLB⟩ := hSw; go_simp; try with_reducible rfl)
  try dsimp only [List.getElem_toArray, List.getElem_cons_succ, List.getElem_cons_zero, Act.put]
  try simp only [List.setIfInBounds_toArray, List.set_cons_zero, List.set_cons_succ]
  refine wpAnyH_ready (rs := [2]) (by kernel_rfl) (by simp) (AllReadyH.cons rfl (fun K hK => ?_) AllReadyH.nil)
  go_simp
  go_at_call 22
  (with_reducible refine (H22.out _ B6.iv).mono ?_)
  rintro e W2 ⟨n1, k1, rfl, In, h2⟩
  have B2 := B6.next h2
  refine hK.out _ _ B2.all (fun hHeld2 => ?_)
  clear hK K hHeld2
  try dsimp only [List.getElem_toArray, List.getElem_cons_succ, List.getElem_cons_zero, Act.put]
  try simp only [List.setIfInBounds_toArray, List.set_cons_zero, List.set_cons_succ]
  refine wpAnyH_ready (rs := [4]) (by kernel_rfl) (by simp) (AllReadyH.cons rfl (fun K hK => ?_) AllReadyH.nil)
  go_simp
  go_at_call 12
  (with_reducible refine (H12.out _ B2.iv).mono ?_)
  rintro e W4 ⟨rfl, h4⟩
  have B4 := B2.next h4
  replace In := HasInts.next In h4
  refine hK.out _ _ B4.all (fun hHeld4 => ?_)
  clear hK K hHeld4
  try dsimp only [List.getElem_toArray, List.getElem_cons_succ, List.getElem_cons_zero, Act.put]
  try simp only [List.setIfInBounds_toArray, List.set_cons_zero, List.set_cons_succ]
  refine wpAnyH_ready (rs := [6]) (by kernel_rfl) (by simp) (AllReadyH.cons rfl (fun K hK => ?_) AllReadyH.nil)
  go_simp
  go_at_call 23
  (with_reducible refine (H23.out _ B4.iv).mono ?_)
  rintro e W6 ⟨n2, k2, rfl, Im, h6⟩
  have B6 := B4.next h6
  replace In := HasInts.next In h6
  refine hK.out _ _ B6.all (fun hHeld6 => ?_)
  clear hK K hHeld6
  try dsimp only [List.getElem_toArray, List.getElem_cons_succ, List.getElem_cons_zero, Act.put]
  try simp only [List.setIfInBounds_toArray, List.set_cons_zero, List.set_cons_succ]
  refine wpAnyH_ready (rs := [7]) (by kernel_rfl) (by simp) (AllReadyH.cons rfl (fun K hK => ?_) AllReadyH.nil)
  go_simp
  go_at_call 21
  (with_reducible refine (H21.out _ _ _ In Im).mono ?_)
  rintro e W7 ⟨rfl, h7⟩
  have B7 := B6.next h7
  replace In := HasInts.next In h7
  replace Im := HasInts.next Im h7
  refine hK.out _ _ B7.all (fun hHeld7 => ?_)
  clear hK K hHeld7
  try dsimp only [List.getElem_toArray, List.getElem_cons_succ, List.getElem_cons_zero, Act.put]
  try simp only [List.setIfInBounds_toArray, List.set_cons_zero, List.set_cons_succ]
  refine wpAnyH_take (i := 8) (v := ?_) rfl (by kernel_rfl) (by kernel_rfl) (by kernel_rfl) (fun _ _ _ h => h) (Or.inl ⟨by kernel_rfl, ?_⟩) B7.all ?_
  rotate_left
  · (intro w0 hSw; (try dsimp only at hSw); obtain ⟨c0, c1, c2, hLB⟩ := hSw; go_simp; try with_reducible rfl)
  try dsimp only [List.getElem_toArray, List.getElem_cons_succ, List.getElem_cons_zero, Act.put]
  try simp only [List.setIfInBounds_toArray, List.set_cons_zero, List.set_cons_succ]
  refine wpAnyH_take (i := 9) (v := ?_) rfl (by kernel_rfl) (by kernel_rfl) (by kernel_rfl) (fun _ _ _ h => h) (Or.inl ⟨by kernel_rfl, ?_⟩) B7.all ?_
  rotate_left
  · (intro w0 hSw; (try dsimp only at hSw); obtain ⟨c0, c1, c2, hLB⟩ := hSw; go_simp; try with_reducible rfl)
  try dsimp only [List.getElem_toArray, List.getElem_cons_succ, List.getElem_cons_zero, Act.put]
  try simp only [List.setIfInBounds_toArray, List.set_cons_zero, List.set_cons_succ]
  refine wpAnyH_take (i := 10) (v := ?_) rfl (by kernel_rfl) (by kernel_rfl) (by kernel_rfl) (fun _ _ _ h => h) (Or.inl ⟨by kernel_rfl, ?_⟩) B7.all ?_
  rotate_left
  · (intro w0 hSw; (try dsimp only at hSw); obtain ⟨c0, c1, c2, hLB⟩ := hSw; go_simp; try with_reducible rfl)
  try dsimp only [List.getElem_toArray, List.getElem_cons_succ, List.getElem_cons_zero, Act.put]
  try simp only [List.setIfInBounds_toArray, List.set_cons_zero, List.set_cons_succ]
  refine wpAnyH_take (i := 11) (v := .bool true) rfl (by kernel_rfl) (by kernel_rfl) (by kernel_rfl) (fun _ _ _ h => h) (Or.inl ⟨by kernel_rfl, ?_⟩) B7.all ?_
  · (intro w0 hSw; (try dsimp only at hSw); obtain ⟨c0, c1, c2, hLB⟩ := hSw; go_simp; try rfl)
  try dsimp only [List.getElem_toArray, List.getElem_cons_succ, List.getElem_cons_zero, Act.put]
  try simp only [List.setIfInBounds_toArray, List.set_cons_zero, List.set_cons_succ]
  refine wpAnyH_take (i := 12) (v := ?_) rfl (by kernel_rfl) (by kernel_rfl) (by kernel_rfl) (fun _ _ _ h => h) (Or.inl ⟨by kernel_rfl, ?_⟩) B7.all ?_
  rotate_left
  · (intro w0 hSw; (try dsimp only at hSw); obtain ⟨c0, c1, c2, hLB⟩ := hSw; go_simp; try with_reducible rfl)
  try dsimp only [List.getElem_toArray, List.getElem_cons_succ, List.getElem_cons_zero, Act.put]
  try simp only [List.setIfInBounds_toArray, List.set_cons_zero, List.set_cons_succ]
  refine wpAnyH_take (i := 13) (v := ?_) rfl (by kernel_rfl) (by kernel_rfl) (by kernel_rfl) (fun _ _ _ h => h) (Or.inl ⟨by kernel_rfl, ?_⟩) B7.all ?_
  rotate_left
  · (intro w0 hSw; (try dsimp only at hSw); obtain ⟨c0, c1, c2, hLB⟩ := hSw; go_simp; try with_reducible rfl)
  try dsimp only [List.getElem_toArray, List.getElem_cons_succ, List.getElem_cons_zero, Act.put]
  try simp only [List.setIfInBounds_toArray, List.set_cons_zero, List.set_cons_succ]
  refine wpAnyH_take (i := 14) (v := ?_) rfl (by kernel_rfl) (by kernel_rfl) (by kernel_rfl) (fun _ _ _ h => h) (Or.inl ⟨by kernel_rfl, ?_⟩) B7.all ?_
  rotate_left
  · (intro w0 hSw; (try dsimp only at hSw); obtain ⟨c0, c1, c2, hLB⟩ := hSw; go_simp; try with_reducible rfl)
  try dsimp only [List.getElem_toArray, List.getElem_cons_succ, List.getElem_cons_zero, Act.put]
  try simp only [List.setIfInBounds_toArray, List.set_cons_zero, List.set_cons_succ]
  refine wpAnyH_take (i := 15) (v := ?_) rfl (by kernel_rfl) (by kernel_rfl) (by kernel_rfl) (fun _ _ _ h => h) (Or.inl ⟨by kernel_rfl, ?_⟩) B7.all ?_
  rotate_left
  · (intro w0 hSw; (try dsimp only at hSw); obtain ⟨c0, c1, c2, hLB⟩ := hSw; go_simp; try with_reducible rfl)
  try dsimp only [List.getElem_toArray, List.getElem_cons_succ, List.getElem_cons_zero, Act.put]
  try simp only [List.setIfInBounds_toArray, List.set_cons_zero, List.set_cons_succ]
  refine wpAnyH_take (i := 16) (v := .bool true) rfl (by kernel_rfl) (by kernel_rfl) (by kernel_rfl) (fun _ _ _ h => h) (Or.inl ⟨by kernel_rfl, ?_⟩) B7.all ?_
  · (intro w0 hSw; (try dsimp only at hSw); obtain ⟨c0, c1, c2, hLB⟩ := hSw; go_simp; try rfl)
  try dsimp only [List.getElem_toArray, List.getElem_cons_succ, List.getElem_cons_zero, Act.put]
  try simp only [List.setIfInBounds_toArray, List.set_cons_zero, List.set_cons_succ]
  refine wpAnyH_take (i := 17) (v := ?_) rfl (by kernel_rfl) (by kernel_rfl) (by kernel_rfl) (fun _ _ _ h => h) (Or.inl ⟨by kernel_rfl, ?_⟩) B7.all ?_
  rotate_left
  · (intro w0 hSw; (try dsimp only at hSw); obtain ⟨c0, c1, c2, hLB⟩ := hSw; go_simp; try with_reducible rfl)
  try dsimp only [List.getElem_toArray, List.getElem_cons_succ, List.getElem_cons_zero, Act.put]
  try simp only [List.setIfInBounds_toArray, List.set_cons_zero, List.set_cons_succ]
  refine wpAnyH_take (i := 18) (v := ?_) rfl (by kernel_rfl) (by kernel_rfl) (by kernel_rfl) (fun _ _ _ h => h) (Or.inl ⟨by kernel_rfl, ?_⟩) B7.all ?_
  rotate_left
  · (intro w0 hSw; (try dsimp only at hSw); obtain ⟨c0, c1, c2, hLB⟩ := hSw; go_simp; try with_reducible rfl)
  try dsimp only [List.getElem_toArray, List.getElem_cons_succ, List.getElem_cons_zero, Act.put]
  try simp only [List.setIfInBounds_toArray, List.set_cons_zero, List.set_cons_succ]
  refine wpAnyH_take (i := 19) (v := ?_) rfl (by kernel_rfl) (by kernel_rfl) (by kernel_rfl) (fun _ _ _ h => h) (Or.inl ⟨by kernel_rfl, ?_⟩) B7.all ?_
  rotate_left
  · (intro w0 hSw; (try dsimp only at hSw); obtain ⟨c0, c1, c2, hLB⟩ := hSw; go_simp; try with_reducible rfl)
  try dsimp only [List.getElem_toArray, List.getElem_cons_succ, List.getElem_cons_zero, Act.put]
  try simp only [List.setIfInBounds_toArray, List.set_cons_zero, List.set_cons_succ]
  refine wpAnyH_take (i := 20) (v := ?_) rfl (by kernel_rfl) (by kernel_rfl) (by kernel_rfl) (fun _ _ _ h => h) (Or.inl ⟨by kernel_rfl, ?_⟩) B7.all ?_
  rotate_left
  · (intro w0 hSw; (try dsimp only at hSw); obtain ⟨c0, c1, c2, hLB⟩ := hSw; go_simp; try with_reducible rfl)
  try dsimp only [List.getElem_toArray, List.getElem_cons_succ, List.getElem_cons_zero, Act.put]
  try simp only [List.setIfInBounds_toArray, List.set_cons_zero, List.set_cons_succ]
  refine wpAnyH_take (i := 21) (v := .bool true) rfl (by kernel_rfl) (by kernel_rfl) (by kernel_rfl) (fun _ _ _ h => h) (Or.inl ⟨by kernel_rfl, ?_⟩) B7.all ?_
  · (intro w0 hSw; (try dsimp only at hSw); obtain ⟨c0, c1, c2, hLB⟩ := hSw; go_simp; try rfl)
  try dsimp only [List.getElem_toArray, List.getElem_cons_succ, List.getElem_cons_zero, Act.put]
  try simp only [List.setIfInBounds_toArray, List.set_cons_zero, List.set_cons_succ]
  refine wpAnyH_take (i := 22) (v := ?_) rfl (by kernel_rfl) (by kernel_rfl) (by kernel_rfl) (fun _ _ _ h => h) (Or.inl ⟨by kernel_rfl, ?_⟩) B7.all ?_
  rotate_left
  · (intro w0 hSw; (try dsimp only at hSw); obtain ⟨c0, c1, c2, hLB⟩ := hSw; go_simp; try with_reducible rfl)
  try dsimp only [List.getElem_toArray, List.getElem_cons_succ, List.getElem_cons_zero, Act.put]
  try simp only [List.setIfInBounds_toArray, List.set_cons_zero, List.set_cons_succ]
  refine wpAnyH_take (i := 23) (v := ?_) rfl (by kernel_rfl) (by kernel_rfl) (by kernel_rfl) (fun _ _ _ h => h) (Or.inl ⟨by kernel_rfl, ?_⟩) B7.all ?_
  rotate_left
  · (intro w0 hSw; (try dsimp only at hSw); obtain ⟨c0, c1, c2, hLB⟩ := hSw; go_simp; try with_reducible rfl)
  try dsimp only [List.getElem_toArray, List.getElem_cons_succ, List.getElem_cons_zero, Act.put]
  try simp only [List.setIfInBounds_toArray, List.set_cons_zero, List.set_cons_succ]
  refine wpAnyH_done (by kernel_rfl) ?_ _
  try dsimp only [List.getElem_toArray, List.getElem_cons_succ, List.getElem_cons_zero, Act.put]
  try simp only [List.setIfInBounds_toArray, List.set_cons_zero, List.set_cons_succ]
  go_wp2
  go_ret
  exact ⟨rfl, B7.below⟩
set_option maxRecDepth 100000 in
set_option maxHeartbeats 8000000 in
theorem Try.PlanFinds_high (v : Value) (rr : Rts) (x st : Int) (w : World) (hv : HasRts w v rr) (hl : longR rr = false) (h : 400 < x) :
    Calls Try.prog 4 #[planV v, .int .i64 x, .int .i64 st] w fun e w' => e = .returned (.bool true) ∧ Below w.heap.size w w' := by
  have HLX := Lib.hid (fun W h => Try.P8 v rr W h)
  rw [hl] at HLX
  have HSH := Lib.hid (fun W => Try.P9 W)
  have HB := Lib.hid (PB.one hv)
  have hf := Fit.of hl
  have H12 := Lib.hid (fun W h => Try.P12 v rr W h)
  have H19 := Lib.hid (fun W h => Try.P19 v rr st W h)
  have H20 := Lib.hid (fun W h => Try.P20 v rr st W hf h)
  have H22 := Lib.hid (fun W h => Try.P22 v rr x W (by have := hf.all; omega) h)
  have H23 := Lib.hid (fun W h => Try.P23 v rr x W hf h)
  have hcl := cntX_len rr x
  generalize fI (findR st rr) = I at *
  generalize fK (findR st rr) = K at *
  generalize fB (findR st rr) = Bo at *
  generalize cntX rr x = CL at *
  have H21 := Lib.hid (fun a b W h1 h2 => Try.P21 a b CL CL W (by omega) h1 h2)
  rw [decide_eq_true rfl] at H21
  have d1 : decide (50 < x) = true := decide_eq_true (by omega)
  have d2 : decide (x ≤ 400) = false := decide_eq_false (by omega)
  obtain ⟨an, cn, rfl⟩ := hv.len
  unfold planV
  clear hv hl hf hcl
  generalize rr.length = L at *
  generalize CL.length = NL at *
  go_enter Try.func4, Try.ntmps4
  go_wp2_with (fail)
  (with_reducible refine (HLX.out _ HB.out.iv).mono ?_)
  rintro e w1 ⟨rfl, hb1⟩
  have B1 := Lib.hid (HB.out.next hb1)
  clear hb1 HLX HB
  go_wp2_with (fail)
  (with_reducible refine (HSH.out _).mono ?_)
  rintro e w2 ⟨rfl, hb2⟩
  have B2 := Lib.hid (B1.out.next hb2)
  have q2 := B2.out.ba.1
  clear hb2 HSH B1
  go_wp2_with (fail)
  (with_reducible refine (H19.out _ B2.out.iv).mono ?_)
  rintro e w3 ⟨rfl, hb3⟩
  have B3 := Lib.hid (B2.out.next hb3)
  have q3 := B3.out.ba.1
  clear hb3 B2 q2 H19
  go_wp2_with (fail)
  (with_reducible refine (H12.out _ B3.out.iv).mono ?_)
  rintro e w4 ⟨rfl, hb4⟩
  have B4 := Lib.hid (B3.out.next hb4)
  clear hb4 B3 q3
  go_wp2_with (fail)
  (with_reducible refine (H20.out _ B4.out.iv).mono ?_)
  rintro e w5 ⟨rfl, hb5⟩
  have B5 := Lib.hid (B4.out.next hb5)
  clear hb5 B4 H20
  go_wp2
  refine wp_region_held_drew (S := PS w w.heap.size w.heap.size w.heap.size (.slice an L cn) rr (.slice an L cn) rr (.slice an L cn) rr) (by kernel_rfl) B5.out.drew.all (fun hHeld0 => ?_)
  have B6 := B5.out.drew
  clear hHeld0
  generalize w5.drew = W6 at *
  refine wpAnyH_take (i := 0) (v := ?_) rfl (by kernel_rfl) (by kernel_rfl) (by kernel_rfl) (fun _ _ _ h => h) (Or.inl ⟨by kernel_rfl, ?_⟩) B6.all ?_
  rotate_left
  · (intro w0 hSw; (try dsimp only at hSw); obtain ⟨c0, c1, c2, hLB⟩ := hSw; go_simp; try with_reducible rfl)
  try dsimp only [List.getElem_toArray, List.getElem_cons_succ, List.getElem_cons_zero, Act.put]
  try simp only [List.setIfInBounds_toArray, List.set_cons_zero, List.set_cons_succ]
  refine wpAnyH_take (i := 1) (v := ?_) rfl (by kernel_rfl) (by kernel_rfl) (by kernel_rfl) (fun _ _ _ h => h) (Or.inl ⟨by kernel_rfl, ?_⟩) B6.all ?_
  rotate_left
  · (intro w0 hSw; (try dsimp only at hSw); obtain ⟨c0, c1, c2, hLB⟩ := hSw; go_simp; try with_reducible rfl)
  try dsimp only [List.getElem_toArray, List.getElem_cons_succ, List.getElem_cons_zero, Act.put]
  try simp only [List.setIfInBounds_toArray, List.set_cons_zero, List.set_cons_succ]
  refine wpAnyH_take (i := 3) (v := ?_) rfl (by kernel_rfl) (by kernel_rfl) (by kernel_rfl) (fun _ _ _ h => h) (Or.inl ⟨by kernel_rfl, ?_⟩) B6.all ?_
  rotate_left
  · (intro w0 hSw; (try dsimp only at hSw); obtain ⟨c0, c1, c2, hLB⟩ := hSw; go_simp; try with_reducible rfl)
  try dsimp only [List.getElem_toArray, List.getElem_cons_succ, List.getElem_cons_zero, Act.put]
  try simp only [List.setIfInBounds_toArray, List.set_cons_zero, List.set_cons_succ]
  refine wpAnyH_take (i := 5) (v := ?_) rfl (by kernel_rfl) (by kernel_rfl) (by kernel_rfl) (fun _ _ _ h => h) (Or.inl ⟨by kernel_rfl, ?_⟩) B6.all ?_
  rotate_left
  · (intro w0 hSw; (try dsimp only at hSw); obtain ⟨c0, c1, c2, hLB⟩ := hSw; go_simp; try with_reducible rfl)
  try dsimp only [List.getElem_toArray, List.getElem_cons_succ, List.getElem_cons_zero, Act.put]
  try simp only [List.setIfInBounds_toArray, List.set_cons_zero, List.set_cons_succ]
  refine wpAnyH_ready (rs := [2]) (by kernel_rfl) (by simp) (AllReadyH.cons rfl (fun K hK => ?_) AllReadyH.nil)
  go_simp
  go_at_call 22
  (with_reducible refine (H22.out _ B6.iv).mono ?_)
  rintro e W2 ⟨n1, k1, rfl, In, h2⟩
  have B2 := B6.next h2
  refine hK.out _ _ B2.all (fun hHeld2 => ?_)
  clear hK K hHeld2
  try dsimp only [List.getElem_toArray, List.getElem_cons_succ, List.getElem_cons_zero, Act.put]
  try simp only [List.setIfInBounds_toArray, List.set_cons_zero, List.set_cons_succ]
  refine wpAnyH_ready (rs := [4]) (by kernel_rfl) (by simp) (AllReadyH.cons rfl (fun K hK => ?_) AllReadyH.nil)
  go_simp
  go_at_call 12
  (with_reducible refine (H12.out _ B2.iv).mono ?_)
  rintro e W4 ⟨rfl, h4⟩
  have B4 := B2.next h4
  replace In := HasInts.next In h4
  refine hK.out _ _ B4.all (fun hHeld4 => ?_)
  clear hK K hHeld4
  try dsimp only [List.getElem_toArray, List.getElem_cons_succ, List.getElem_cons_zero, Act.put]
  try simp only [List.setIfInBounds_toArray, List.set_cons_zero, List.set_cons_succ]
  refine wpAnyH_ready (rs := [6]) (by kernel_rfl) (by simp) (AllReadyH.cons rfl (fun K hK => ?_) AllReadyH.nil)
  go_simp
  go_at_call 23
  (with_reducible refine (H23.out _ B4.iv).mono ?_)
  rintro e W6 ⟨n2, k2, rfl, Im, h6⟩
  have B6 := B4.next h6
  replace In := HasInts.next In h6
  refine hK.out _ _ B6.all (fun hHeld6 => ?_)
  clear hK K hHeld6
  try dsimp only [List.getElem_toArray, List.getElem_cons_succ, List.getElem_cons_zero, Act.put]
  try simp only [List.setIfInBounds_toArray, List.set_cons_zero, List.set_cons_succ]
  refine wpAnyH_ready (rs := [7]) (by kernel_rfl) (by simp) (AllReadyH.cons rfl (fun K hK => ?_) AllReadyH.nil)
  go_simp
  go_at_call 21
  (with_reducible refine (H21.out _ _ _ In Im).mono ?_)
  rintro e W7 ⟨rfl, h7⟩
  have B7 := B6.next h7
  replace In := HasInts.next In h7
  replace Im := HasInts.next Im h7
  refine hK.out _ _ B7.all (fun hHeld7 => ?_)
  clear hK K hHeld7
  try dsimp only [List.getElem_toArray, List.getElem_cons_succ, List.getElem_cons_zero, Act.put]
  try simp only [List.setIfInBounds_toArray, List.set_cons_zero, List.set_cons_succ]
  refine wpAnyH_take (i := 8) (v := ?_) rfl (by kernel_rfl) (by kernel_rfl) (by kernel_rfl) (fun _ _ _ h => h) (Or.inl ⟨by kernel_rfl, ?_⟩) B7.all ?_
  rotate_left
  · (intro w0 hSw; (try dsimp only at hSw); obtain ⟨c0, c1, c2, hLB⟩ := hSw; go_simp; try with_reducible rfl)
  try dsimp only [List.getElem_toArray, List.getElem_cons_succ, List.getElem_cons_zero, Act.put]
  try simp only [List.setIfInBounds_toArray, List.set_cons_zero, List.set_cons_succ]
  refine wpAnyH_take (i := 9) (v := ?_) rfl (by kernel_rfl) (by kernel_rfl) (by kernel_rfl) (fun _ _ _ h => h) (Or.inl ⟨by kernel_rfl, ?_⟩) B7.all ?_
  rotate_left
  · (intro w0 hSw; (try dsimp only at hSw); obtain ⟨c0, c1, c2, hLB⟩ := hSw; go_simp; try with_reducible rfl)
  try dsimp only [List.getElem_toArray, List.getElem_cons_succ, List.getElem_cons_zero, Act.put]
  try simp only [List.setIfInBounds_toArray, List.set_cons_zero, List.set_cons_succ]
  refine wpAnyH_take (i := 10) (v := ?_) rfl (by kernel_rfl) (by kernel_rfl) (by kernel_rfl) (fun _ _ _ h => h) (Or.inl ⟨by kernel_rfl, ?_⟩) B7.all ?_
  rotate_left
  · (intro w0 hSw; (try dsimp only at hSw); obtain ⟨c0, c1, c2, hLB⟩ := hSw; go_simp; try with_reducible rfl)
  try dsimp only [List.getElem_toArray, List.getElem_cons_succ, List.getElem_cons_zero, Act.put]
  try simp only [List.setIfInBounds_toArray, List.set_cons_zero, List.set_cons_succ]
  refine wpAnyH_take (i := 11) (v := .bool true) rfl (by kernel_rfl) (by kernel_rfl) (by kernel_rfl) (fun _ _ _ h => h) (Or.inl ⟨by kernel_rfl, ?_⟩) B7.all ?_
  · (intro w0 hSw; (try dsimp only at hSw); obtain ⟨c0, c1, c2, hLB⟩ := hSw; go_simp; try rfl)
  try dsimp only [List.getElem_toArray, List.getElem_cons_succ, List.getElem_cons_zero, Act.put]
  try simp only [List.setIfInBounds_toArray, List.set_cons_zero, List.set_cons_succ]
  refine wpAnyH_take (i := 12) (v := ?_) rfl (by kernel_rfl) (by kernel_rfl) (by kernel_rfl) (fun _ _ _ h => h) (Or.inl ⟨by kernel_rfl, ?_⟩) B7.all ?_
  rotate_left
  · (intro w0 hSw; (try dsimp only at hSw); obtain ⟨c0, c1, c2, hLB⟩ := hSw; go_simp; try with_reducible rfl)
  try dsimp only [List.getElem_toArray, List.getElem_cons_succ, List.getElem_cons_zero, Act.put]
  try simp only [List.setIfInBounds_toArray, List.set_cons_zero, List.set_cons_succ]
  refine wpAnyH_take (i := 13) (v := ?_) rfl (by kernel_rfl) (by kernel_rfl) (by kernel_rfl) (fun _ _ _ h => h) (Or.inl ⟨by kernel_rfl, ?_⟩) B7.all ?_
  rotate_left
  · (intro w0 hSw; (try dsimp only at hSw); obtain ⟨c0, c1, c2, hLB⟩ := hSw; go_simp; try with_reducible rfl)
  try dsimp only [List.getElem_toArray, List.getElem_cons_succ, List.getElem_cons_zero, Act.put]
  try simp only [List.setIfInBounds_toArray, List.set_cons_zero, List.set_cons_succ]
  refine wpAnyH_take (i := 14) (v := ?_) rfl (by kernel_rfl) (by kernel_rfl) (by kernel_rfl) (fun _ _ _ h => h) (Or.inl ⟨by kernel_rfl, ?_⟩) B7.all ?_
  rotate_left
  · (intro w0 hSw; (try dsimp only at hSw); obtain ⟨c0, c1, c2, hLB⟩ := hSw; go_simp; try with_reducible rfl)
  try dsimp only [List.getElem_toArray, List.getElem_cons_succ, List.getElem_cons_zero, Act.put]
  try simp only [List.setIfInBounds_toArray, List.set_cons_zero, List.set_cons_succ]
  refine wpAnyH_take (i := 15) (v := ?_) rfl (by kernel_rfl) (by kernel_rfl) (by kernel_rfl) (fun _ _ _ h => h) (Or.inl ⟨by kernel_rfl, ?_⟩) B7.all ?_
  rotate_left
  · (intro w0 hSw; (try dsimp only at hSw); obtain ⟨c0, c1, c2, hLB⟩ := hSw; go_simp; try with_reducible rfl)
  try dsimp only [List.getElem_toArray, List.getElem_cons_succ, List.getElem_cons_zero, Act.put]
  try simp only [List.setIfInBounds_toArray, List.set_cons_zero, List.set_cons_succ]
  refine wpAnyH_take (i := 16) (v := .bool true) rfl (by kernel_rfl) (by kernel_rfl) (by kernel_rfl) (fun _ _ _ h => h) (Or.inl ⟨by kernel_rfl, ?_⟩) B7.all ?_
  · (intro w0 hSw; (try dsimp only at hSw); obtain ⟨c0, c1, c2, hLB⟩ := hSw; go_simp; try rfl)
  try dsimp only [List.getElem_toArray, List.getElem_cons_succ, List.getElem_cons_zero, Act.put]
  try simp only [List.setIfInBounds_toArray, List.set_cons_zero, List.set_cons_succ]
  refine wpAnyH_take (i := 17) (v := ?_) rfl (by kernel_rfl) (by kernel_rfl) (by kernel_rfl) (fun _ _ _ h => h) (Or.inl ⟨by kernel_rfl, ?_⟩) B7.all ?_
  rotate_left
  · (intro w0 hSw; (try dsimp only at hSw); obtain ⟨c0, c1, c2, hLB⟩ := hSw; go_simp; try with_reducible rfl)
  try dsimp only [List.getElem_toArray, List.getElem_cons_succ, List.getElem_cons_zero, Act.put]
  try simp only [List.setIfInBounds_toArray, List.set_cons_zero, List.set_cons_succ]
  refine wpAnyH_take (i := 18) (v := ?_) rfl (by kernel_rfl) (by kernel_rfl) (by kernel_rfl) (fun _ _ _ h => h) (Or.inl ⟨by kernel_rfl, ?_⟩) B7.all ?_
  rotate_left
  · (intro w0 hSw; (try dsimp only at hSw); obtain ⟨c0, c1, c2, hLB⟩ := hSw; go_simp; try with_reducible rfl)
  try dsimp only [List.getElem_toArray, List.getElem_cons_succ, List.getElem_cons_zero, Act.put]
  try simp only [List.setIfInBounds_toArray, List.set_cons_zero, List.set_cons_succ]
  refine wpAnyH_take (i := 19) (v := ?_) rfl (by kernel_rfl) (by kernel_rfl) (by kernel_rfl) (fun _ _ _ h => h) (Or.inl ⟨by kernel_rfl, ?_⟩) B7.all ?_
  rotate_left
  · (intro w0 hSw; (try dsimp only at hSw); obtain ⟨c0, c1, c2, hLB⟩ := hSw; go_simp; try with_reducible rfl)
  try dsimp only [List.getElem_toArray, List.getElem_cons_succ, List.getElem_cons_zero, Act.put]
  try simp only [List.setIfInBounds_toArray, List.set_cons_zero, List.set_cons_succ]
  refine wpAnyH_take (i := 20) (v := ?_) rfl (by kernel_rfl) (by kernel_rfl) (by kernel_rfl) (fun _ _ _ h => h) (Or.inl ⟨by kernel_rfl, ?_⟩) B7.all ?_
  rotate_left
  · (intro w0 hSw; (try dsimp only at hSw); obtain ⟨c0, c1, c2, hLB⟩ := hSw; go_simp; try with_reducible rfl)
  try dsimp only [List.getElem_toArray, List.getElem_cons_succ, List.getElem_cons_zero, Act.put]
  try simp only [List.setIfInBounds_toArray, List.set_cons_zero, List.set_cons_succ]
  refine wpAnyH_take (i := 21) (v := .bool true) rfl (by kernel_rfl) (by kernel_rfl) (by kernel_rfl) (fun _ _ _ h => h) (Or.inl ⟨by kernel_rfl, ?_⟩) B7.all ?_
  · (intro w0 hSw; (try dsimp only at hSw); obtain ⟨c0, c1, c2, hLB⟩ := hSw; go_simp; try rfl)
  try dsimp only [List.getElem_toArray, List.getElem_cons_succ, List.getElem_cons_zero, Act.put]
  try simp only [List.setIfInBounds_toArray, List.set_cons_zero, List.set_cons_succ]
  refine wpAnyH_take (i := 22) (v := ?_) rfl (by kernel_rfl) (by kernel_rfl) (by kernel_rfl) (fun _ _ _ h => h) (Or.inl ⟨by kernel_rfl, ?_⟩) B7.all ?_
  rotate_left
  · (intro w0 hSw; (try dsimp only at hSw); obtain ⟨c0, c1, c2, hLB⟩ := hSw; go_simp; try with_reducible rfl)
  try dsimp only [List.getElem_toArray, List.getElem_cons_succ, List.getElem_cons_zero, Act.put]
  try simp only [List.setIfInBounds_toArray, List.set_cons_zero, List.set_cons_succ]
  refine wpAnyH_take (i := 23) (v := ?_) rfl (by kernel_rfl) (by kernel_rfl) (by kernel_rfl) (fun _ _ _ h => h) (Or.inl ⟨by kernel_rfl, ?_⟩) B7.all ?_
  rotate_left
  · (intro w0 hSw; (try dsimp only at hSw); obtain ⟨c0, c1, c2, hLB⟩ := hSw; go_simp; try with_reducible rfl)
  try dsimp only [List.getElem_toArray, List.getElem_cons_succ, List.getElem_cons_zero, Act.put]
  try simp only [List.setIfInBounds_toArray, List.set_cons_zero, List.set_cons_succ]
  refine wpAnyH_done (by kernel_rfl) ?_ _
  try dsimp only [List.getElem_toArray, List.getElem_cons_succ, List.getElem_cons_zero, Act.put]
  try simp only [List.setIfInBounds_toArray, List.set_cons_zero, List.set_cons_succ]
  go_wp2
  go_ret
  exact ⟨rfl, B7.below⟩
theorem Try.PlanFinds_all (v : Value) (rr : Rts) (x : Int) (_ : (Lit.int .i64 x).wf = true) (st : Int) (_ : (Lit.int .i64 st).wf = true) (w : World) (hv : HasRts w v rr) :
    Calls Try.prog 4 #[planV v, .int .i64 x, .int .i64 st] w fun e w' => e = .returned (.bool true) ∧ Below w.heap.size w w' := by
  cases h1 : longR rr with
  | true => exact Try.PlanFinds_long v rr x st w hv (.inl h1)
  | false =>
    by_cases h2 : x ≤ 50
    · exact Try.PlanFinds_low v rr x st w hv h1 h2
    · by_cases h3 : 400 < x
      · exact Try.PlanFinds_high v rr x st w hv h1 h3
      · exact Try.PlanFinds_long v rr x st w hv (.inr ⟨h1, by omega, by omega⟩)
#print axioms Try.PlanFinds_all
end Go.Proofs
