/- The law PlanTells of layer 9, as a contract: it answers true at every two plans. No condition. -/
import Derived.Test.YtbnefehfkeonhaaPlanLaw
namespace Go.Proofs
open Go.RowKit Go.Plans
attribute [local go_sem] Oper.semAt_some
set_option maxRecDepth 100000 in
set_option maxHeartbeats 4000000 in
theorem Try.PlanTells_long (v u : Value) (rr ss : Rts) (w : World) (hv : HasRts w v rr) (hu : HasRts w u ss) (h : longR rr = true ∨ longR rr = false ∧ longR ss = true) :
    Calls Try.prog 3 #[planV v, planV u] w fun e w' => e = .returned (.bool true) ∧ Below w.heap.size w w' := by
  have HLX := Lib.hid (fun W h => Try.P8 v rr W h)
  have HLY := Lib.hid (fun W h => Try.P8 u ss W h)
  have HSH := Lib.hid (fun W => Try.P9 W)
  have HB := Lib.hid (PB.two hv hu)
  obtain ⟨an, cn, rfl⟩ := hv.len
  obtain ⟨am, cm, rfl⟩ := hu.len
  unfold planV
  clear hv hu
  rcases h with hl | ⟨hl, hl2⟩
  · rw [hl] at HLX
    clear hl
    generalize rr.length = L at *
    generalize ss.length = M at *
    go_enter Try.func3, Try.ntmps3
    go_wp2_with (fail)
    (with_reducible refine (HLX.out _ HB.out.iv).mono ?_)
    rintro e w1 ⟨rfl, hb1⟩
    have B1 := Lib.hid (HB.out.next hb1)
    clear hb1 HLX HB
    go_wp2_with (fail)
    (with_reducible refine (HSH.out _).mono ?_)
    rintro e w2 ⟨rfl, hb2⟩
    have B2 := Lib.hid (B1.out.next hb2)
    go_wp2
    go_ret
    exact ⟨rfl, B2.out.below⟩
  · rw [hl] at HLX
    rw [hl2] at HLY
    clear hl hl2
    generalize rr.length = L at *
    generalize ss.length = M at *
    go_enter Try.func3, Try.ntmps3
    go_wp2_with (fail)
    (with_reducible refine (HLX.out _ HB.out.iv).mono ?_)
    rintro e w1 ⟨rfl, hb1⟩
    have B1 := Lib.hid (HB.out.next hb1)
    have q0 := B1.out.ba.1
    have q1 := B1.out.bb.1
    clear hb1 HLX HB
    go_wp2_with (fail)
    (with_reducible refine (HLY.out _ B1.out.iu).mono ?_)
    rintro e w2 ⟨rfl, hb2⟩
    have B2 := Lib.hid (B1.out.next hb2)
    clear hb2 HLY B1 q0 q1
    go_wp2_with (fail)
    (with_reducible refine (HSH.out _).mono ?_)
    rintro e w3 ⟨rfl, hb3⟩
    have B3 := Lib.hid (B2.out.next hb3)
    go_wp2
    go_ret
    exact ⟨rfl, B3.out.below⟩
set_option maxRecDepth 100000 in
set_option maxHeartbeats 8000000 in
theorem Try.PlanTells_calls (v u : Value) (rr ss : Rts) (w : World) (hv : HasRts w v rr) (hu : HasRts w u ss) (hl : longR rr = false) (hl2 : longR ss = false) :
    Calls Try.prog 3 #[planV v, planV u] w fun e w' => e = .returned (.bool true) ∧ Below w.heap.size w w' := by
  have HLX := Lib.hid (fun W h => Try.P8 v rr W h)
  have HLY := Lib.hid (fun W h => Try.P8 u ss W h)
  rw [hl] at HLX
  rw [hl2] at HLY
  have HSH := Lib.hid (fun W => Try.P9 W)
  have HB := Lib.hid (PB.two hv hu)
  have hf := Fit.of hl
  have H10 := Lib.hid (fun W h => Try.P10 v rr W hf h)
  have H11 := Lib.hid (fun W h => Try.P11 v rr W hf h)
  have H12 := Lib.hid (fun v rr W h => Try.P12 v rr W h)
  have H14 := Lib.hid (fun W h => Try.P14 v rr W hf h)
  have H15 := Lib.hid (fun W h => Try.P15 v rr W hf h)
  have H13n := Lib.hid (fun x y W h1 h2 => Try.P13 x y (normR rr) (normR rr) W hf.norm h1 h2)
  rw [decide_eq_true rfl] at H13n
  have H16 := Lib.hid (fun W h => Try.P16 v rr W (by have := hf.all; omega) h)
  have H17 := Lib.hid (fun W h => Try.P17 v rr W hf h)
  have H18 := Lib.hid (fun W h1 h2 => Try.P18 v u rr ss W hf h1 h2)
  have H13 := Lib.hid (fun W h1 h2 => Try.P13 v u rr ss W hf h1 h2)
  generalize decide (rr = ss) = r at *
  generalize checkE rr = E at *
  generalize many rr = MM at *
  obtain ⟨nr, hnr⟩ : ∃ nr, normR rr = nr := ⟨_, rfl⟩
  rw [hnr] at H14 H15 H13n
  obtain ⟨an, cn, rfl⟩ := hv.len
  obtain ⟨am, cm, rfl⟩ := hu.len
  unfold planV
  clear hv hu hl hl2 hf hnr
  generalize rr.length = L at *
  generalize ss.length = M at *
  generalize nr.length = K at *
  go_enter Try.func3, Try.ntmps3
  go_wp2_with (fail)
  (with_reducible refine (HLX.out _ HB.out.iv).mono ?_)
  rintro e w1 ⟨rfl, hb1⟩
  have B1 := Lib.hid (HB.out.next hb1)
  have q0 := B1.out.ba.1
  have q1 := B1.out.bb.1
  clear hb1 HLX HB
  go_wp2_with (fail)
  (with_reducible refine (HLY.out _ B1.out.iu).mono ?_)
  rintro e w2 ⟨rfl, hb2⟩
  have B2 := Lib.hid (B1.out.next hb2)
  clear hb2 HLY B1 q0 q1
  go_wp2_with (fail)
  (with_reducible refine (HSH.out _).mono ?_)
  rintro e w3 ⟨rfl, hb3⟩
  have B3 := Lib.hid (B2.out.next hb3)
  clear hb3 HSH B2
  go_wp2
  refine wp_region_held_drew (S := PS w w.heap.size (w.heap.size + 1) w.heap.size (.slice an L cn) rr (.slice am M cm) ss (.slice an L cn) rr) (by kernel_rfl) B3.out.drew.all (fun hHeld0 => ?_)
  have B4 := B3.out.drew
  clear hHeld0
  generalize w3.drew = W4 at *
  refine wpAnyH_take (i := 0) (v := ?_) rfl (by kernel_rfl) (by kernel_rfl) (by kernel_rfl) (fun _ _ _ h => h) (Or.inl ⟨by kernel_rfl, ?_⟩) B4.all ?_
  rotate_left
  · (intro w0 hSw; (try dsimp only at hSw); obtain ⟨c0, c1, c2, hLB⟩ := hSw; go_simp; try with_reducible rfl)
  try dsimp only [List.getElem_toArray, List.getElem_cons_succ, List.getElem_cons_zero, Act.put]
  try simp only [List.setIfInBounds_toArray, List.set_cons_zero, List.set_cons_succ]
  refine wpAnyH_take (i := 2) (v := ?_) rfl (by kernel_rfl) (by kernel_rfl) (by kernel_rfl) (fun _ _ _ h => h) (Or.inl ⟨by kernel_rfl, ?_⟩) B4.all ?_
  rotate_left
  · (intro w0 hSw; (try dsimp only at hSw); obtain ⟨c0, c1, c2, hLB⟩ := hSw; go_simp; try with_reducible rfl)
  try dsimp only [List.getElem_toArray, List.getElem_cons_succ, List.getElem_cons_zero, Act.put]
  try simp only [List.setIfInBounds_toArray, List.set_cons_zero, List.set_cons_succ]
  refine wpAnyH_ready (rs := [1]) (by kernel_rfl) (by simp) (AllReadyH.cons rfl (fun K hK => ?_) AllReadyH.nil)
  go_simp
  go_at_call 10
  (with_reducible refine (H10.out _ B4.iv).mono ?_)
  rintro e W1 ⟨rfl, h1⟩
  have B1 := B4.next h1
  refine hK.out _ _ B1.all (fun hHeld1 => ?_)
  clear hK K hHeld1
  try dsimp only [List.getElem_toArray, List.getElem_cons_succ, List.getElem_cons_zero, Act.put]
  try simp only [List.setIfInBounds_toArray, List.set_cons_zero, List.set_cons_succ]
  refine wpAnyH_ready (rs := [3]) (by kernel_rfl) (by simp) (AllReadyH.cons rfl (fun K hK => ?_) AllReadyH.nil)
  go_simp
  go_at_call 12
  (with_reducible refine (H12.out _ _ _ B1.iv).mono ?_)
  rintro e W3 ⟨rfl, h3⟩
  have B3 := B1.next h3
  refine hK.out _ _ B3.all (fun hHeld3 => ?_)
  clear hK K hHeld3
  try dsimp only [List.getElem_toArray, List.getElem_cons_succ, List.getElem_cons_zero, Act.put]
  try simp only [List.setIfInBounds_toArray, List.set_cons_zero, List.set_cons_succ]
  refine wpAnyH_ready (rs := [4]) (by kernel_rfl) (by simp) (AllReadyH.cons rfl (fun K hK => ?_) AllReadyH.nil)
  go_simp
  go_at_call 11
  (with_reducible refine (H11.out _ B3.iv).mono ?_)
  rintro e W4 ⟨rfl, h4⟩
  have B4 := B3.next h4
  refine hK.out _ _ B4.all (fun hHeld4 => ?_)
  clear hK K hHeld4
  try dsimp only [List.getElem_toArray, List.getElem_cons_succ, List.getElem_cons_zero, Act.put]
  try simp only [List.setIfInBounds_toArray, List.set_cons_zero, List.set_cons_succ]
  refine wpAnyH_take (i := 5) (v := .bool true) rfl (by kernel_rfl) (by kernel_rfl) (by kernel_rfl) (fun _ _ _ h => h) (Or.inl ⟨by kernel_rfl, ?_⟩) B4.all ?_
  · (intro w0 hSw; (try dsimp only at hSw); obtain ⟨c0, c1, c2, hLB⟩ := hSw; go_simp; try rfl)
  try dsimp only [List.getElem_toArray, List.getElem_cons_succ, List.getElem_cons_zero, Act.put]
  try simp only [List.setIfInBounds_toArray, List.set_cons_zero, List.set_cons_succ]
  refine wpAnyH_take (i := 6) (v := ?_) rfl (by kernel_rfl) (by kernel_rfl) (by kernel_rfl) (fun _ _ _ h => h) (Or.inl ⟨by kernel_rfl, ?_⟩) B4.all ?_
  rotate_left
  · (intro w0 hSw; (try dsimp only at hSw); obtain ⟨c0, c1, c2, hLB⟩ := hSw; go_simp; try with_reducible rfl)
  try dsimp only [List.getElem_toArray, List.getElem_cons_succ, List.getElem_cons_zero, Act.put]
  try simp only [List.setIfInBounds_toArray, List.set_cons_zero, List.set_cons_succ]
  refine wpAnyH_take (i := 7) (v := ?_) rfl (by kernel_rfl) (by kernel_rfl) (by kernel_rfl) (fun _ _ _ h => h) (Or.inl ⟨by kernel_rfl, ?_⟩) B4.all ?_
  rotate_left
  · (intro w0 hSw; (try dsimp only at hSw); obtain ⟨c0, c1, c2, hLB⟩ := hSw; go_simp; try with_reducible rfl)
  try dsimp only [List.getElem_toArray, List.getElem_cons_succ, List.getElem_cons_zero, Act.put]
  try simp only [List.setIfInBounds_toArray, List.set_cons_zero, List.set_cons_succ]
  refine wpAnyH_take (i := 10) (v := ?_) rfl (by kernel_rfl) (by kernel_rfl) (by kernel_rfl) (fun _ _ _ h => h) (Or.inl ⟨by kernel_rfl, ?_⟩) B4.all ?_
  rotate_left
  · (intro w0 hSw; (try dsimp only at hSw); obtain ⟨c0, c1, c2, hLB⟩ := hSw; go_simp; try with_reducible rfl)
  try dsimp only [List.getElem_toArray, List.getElem_cons_succ, List.getElem_cons_zero, Act.put]
  try simp only [List.setIfInBounds_toArray, List.set_cons_zero, List.set_cons_succ]
  refine wpAnyH_ready (rs := [8]) (by kernel_rfl) (by simp) (AllReadyH.cons rfl (fun K hK => ?_) AllReadyH.nil)
  go_simp
  go_at_call 14
  (with_reducible refine (H14.out _ B4.iv).mono ?_)
  rintro e W8 ⟨n1, k1, rfl, In, h8⟩
  have B8 := B4.next h8
  refine hK.out _ _ B8.all (fun hHeld8 => ?_)
  clear hK K hHeld8
  try dsimp only [List.getElem_toArray, List.getElem_cons_succ, List.getElem_cons_zero, Act.put]
  try simp only [List.setIfInBounds_toArray, List.set_cons_zero, List.set_cons_succ]
  refine wpAnyH_ready (rs := [9]) (by kernel_rfl) (by simp) (AllReadyH.cons rfl (fun K hK => ?_) AllReadyH.nil)
  go_simp
  go_at_call 12
  (with_reducible refine (H12.out _ _ _ In).mono ?_)
  rintro e W9 ⟨rfl, h9⟩
  have B9 := B8.next h9
  replace In := HasRts.next In h9
  refine hK.out _ _ B9.all (fun hHeld9 => ?_)
  clear hK K hHeld9
  try dsimp only [List.getElem_toArray, List.getElem_cons_succ, List.getElem_cons_zero, Act.put]
  try simp only [List.setIfInBounds_toArray, List.set_cons_zero, List.set_cons_succ]
  refine wpAnyH_ready (rs := [11]) (by kernel_rfl) (by simp) (AllReadyH.cons rfl (fun K hK => ?_) AllReadyH.nil)
  go_simp
  go_at_call 12
  (with_reducible refine (H12.out _ _ _ B9.iv).mono ?_)
  rintro e W11 ⟨rfl, h11⟩
  have B11 := B9.next h11
  replace In := HasRts.next In h11
  refine hK.out _ _ B11.all (fun hHeld11 => ?_)
  clear hK K hHeld11
  try dsimp only [List.getElem_toArray, List.getElem_cons_succ, List.getElem_cons_zero, Act.put]
  try simp only [List.setIfInBounds_toArray, List.set_cons_zero, List.set_cons_succ]
  refine wpAnyH_ready (rs := [12]) (by kernel_rfl) (by simp) (AllReadyH.cons rfl (fun K hK => ?_) AllReadyH.nil)
  go_simp
  go_at_call 15
  (with_reducible refine (H15.out _ B11.iv).mono ?_)
  rintro e W12 ⟨n2, k2, rfl, Im, h12⟩
  have B12 := B11.next h12
  replace In := HasRts.next In h12
  refine hK.out _ _ B12.all (fun hHeld12 => ?_)
  clear hK K hHeld12
  try dsimp only [List.getElem_toArray, List.getElem_cons_succ, List.getElem_cons_zero, Act.put]
  try simp only [List.setIfInBounds_toArray, List.set_cons_zero, List.set_cons_succ]
  refine wpAnyH_ready (rs := [13]) (by kernel_rfl) (by simp) (AllReadyH.cons rfl (fun K hK => ?_) AllReadyH.nil)
  go_simp
  go_at_call 13
  (with_reducible refine (H13n.out _ _ _ In Im).mono ?_)
  rintro e W13 ⟨rfl, h13⟩
  have B13 := B12.next h13
  replace In := HasRts.next In h13
  replace Im := HasRts.next Im h13
  refine hK.out _ _ B13.all (fun hHeld13 => ?_)
  clear hK K hHeld13
  try dsimp only [List.getElem_toArray, List.getElem_cons_succ, List.getElem_cons_zero, Act.put]
  try simp only [List.setIfInBounds_toArray, List.set_cons_zero, List.set_cons_succ]
  refine wpAnyH_take (i := 14) (v := ?_) rfl (by kernel_rfl) (by kernel_rfl) (by kernel_rfl) (fun _ _ _ h => h) (Or.inl ⟨by kernel_rfl, ?_⟩) B13.all ?_
  rotate_left
  · (intro w0 hSw; (try dsimp only at hSw); obtain ⟨c0, c1, c2, hLB⟩ := hSw; go_simp; try with_reducible rfl)
  try dsimp only [List.getElem_toArray, List.getElem_cons_succ, List.getElem_cons_zero, Act.put]
  try simp only [List.setIfInBounds_toArray, List.set_cons_zero, List.set_cons_succ]
  refine wpAnyH_take (i := 15) (v := ?_) rfl (by kernel_rfl) (by kernel_rfl) (by kernel_rfl) (fun _ _ _ h => h) (Or.inl ⟨by kernel_rfl, ?_⟩) B13.all ?_
  rotate_left
  · (intro w0 hSw; (try dsimp only at hSw); obtain ⟨c0, c1, c2, hLB⟩ := hSw; go_simp; try with_reducible rfl)
  try dsimp only [List.getElem_toArray, List.getElem_cons_succ, List.getElem_cons_zero, Act.put]
  try simp only [List.setIfInBounds_toArray, List.set_cons_zero, List.set_cons_succ]
  refine wpAnyH_take (i := 16) (v := ?_) rfl (by kernel_rfl) (by kernel_rfl) (by kernel_rfl) (fun _ _ _ h => h) (Or.inl ⟨by kernel_rfl, ?_⟩) B13.all ?_
  rotate_left
  · (intro w0 hSw; (try dsimp only at hSw); obtain ⟨c0, c1, c2, hLB⟩ := hSw; go_simp; try with_reducible rfl)
  try dsimp only [List.getElem_toArray, List.getElem_cons_succ, List.getElem_cons_zero, Act.put]
  try simp only [List.setIfInBounds_toArray, List.set_cons_zero, List.set_cons_succ]
  refine wpAnyH_take (i := 18) (v := ?_) rfl (by kernel_rfl) (by kernel_rfl) (by kernel_rfl) (fun _ _ _ h => h) (Or.inl ⟨by kernel_rfl, ?_⟩) B13.all ?_
  rotate_left
  · (intro w0 hSw; (try dsimp only at hSw); obtain ⟨c0, c1, c2, hLB⟩ := hSw; go_simp; try with_reducible rfl)
  try dsimp only [List.getElem_toArray, List.getElem_cons_succ, List.getElem_cons_zero, Act.put]
  try simp only [List.setIfInBounds_toArray, List.set_cons_zero, List.set_cons_succ]
  refine wpAnyH_ready (rs := [17]) (by kernel_rfl) (by simp) (AllReadyH.cons rfl (fun K hK => ?_) AllReadyH.nil)
  go_simp
  go_at_call 16
  (with_reducible refine (H16.out _ B13.iv).mono ?_)
  rintro e W17 ⟨rfl, h17⟩
  have B17 := B13.next h17
  replace In := HasRts.next In h17
  replace Im := HasRts.next Im h17
  refine hK.out _ _ B17.all (fun hHeld17 => ?_)
  clear hK K hHeld17
  try dsimp only [List.getElem_toArray, List.getElem_cons_succ, List.getElem_cons_zero, Act.put]
  try simp only [List.setIfInBounds_toArray, List.set_cons_zero, List.set_cons_succ]
  refine wpAnyH_ready (rs := [19]) (by kernel_rfl) (by simp) (AllReadyH.cons rfl (fun K hK => ?_) AllReadyH.nil)
  go_simp
  go_at_call 12
  (with_reducible refine (H12.out _ _ _ B17.iv).mono ?_)
  rintro e W19 ⟨rfl, h19⟩
  have B19 := B17.next h19
  replace In := HasRts.next In h19
  replace Im := HasRts.next Im h19
  refine hK.out _ _ B19.all (fun hHeld19 => ?_)
  clear hK K hHeld19
  try dsimp only [List.getElem_toArray, List.getElem_cons_succ, List.getElem_cons_zero, Act.put]
  try simp only [List.setIfInBounds_toArray, List.set_cons_zero, List.set_cons_succ]
  refine wpAnyH_ready (rs := [20]) (by kernel_rfl) (by simp) (AllReadyH.cons rfl (fun K hK => ?_) AllReadyH.nil)
  go_simp
  go_at_call 17
  (with_reducible refine (H17.out _ B19.iv).mono ?_)
  rintro e W20 ⟨rfl, h20⟩
  have B20 := B19.next h20
  replace In := HasRts.next In h20
  replace Im := HasRts.next Im h20
  refine hK.out _ _ B20.all (fun hHeld20 => ?_)
  clear hK K hHeld20
  try dsimp only [List.getElem_toArray, List.getElem_cons_succ, List.getElem_cons_zero, Act.put]
  try simp only [List.setIfInBounds_toArray, List.set_cons_zero, List.set_cons_succ]
  refine wpAnyH_take (i := 21) (v := .bool true) rfl (by kernel_rfl) (by kernel_rfl) (by kernel_rfl) (fun _ _ _ h => h) (Or.inl ⟨by kernel_rfl, ?_⟩) B20.all ?_
  · (intro w0 hSw; (try dsimp only at hSw); obtain ⟨c0, c1, c2, hLB⟩ := hSw; go_simp; try rfl)
  try dsimp only [List.getElem_toArray, List.getElem_cons_succ, List.getElem_cons_zero, Act.put]
  try simp only [List.setIfInBounds_toArray, List.set_cons_zero, List.set_cons_succ]
  refine wpAnyH_take (i := 22) (v := ?_) rfl (by kernel_rfl) (by kernel_rfl) (by kernel_rfl) (fun _ _ _ h => h) (Or.inl ⟨by kernel_rfl, ?_⟩) B20.all ?_
  rotate_left
  · (intro w0 hSw; (try dsimp only at hSw); obtain ⟨c0, c1, c2, hLB⟩ := hSw; go_simp; try with_reducible rfl)
  try dsimp only [List.getElem_toArray, List.getElem_cons_succ, List.getElem_cons_zero, Act.put]
  try simp only [List.setIfInBounds_toArray, List.set_cons_zero, List.set_cons_succ]
  refine wpAnyH_take (i := 23) (v := ?_) rfl (by kernel_rfl) (by kernel_rfl) (by kernel_rfl) (fun _ _ _ h => h) (Or.inl ⟨by kernel_rfl, ?_⟩) B20.all ?_
  rotate_left
  · (intro w0 hSw; (try dsimp only at hSw); obtain ⟨c0, c1, c2, hLB⟩ := hSw; go_simp; try with_reducible rfl)
  try dsimp only [List.getElem_toArray, List.getElem_cons_succ, List.getElem_cons_zero, Act.put]
  try simp only [List.setIfInBounds_toArray, List.set_cons_zero, List.set_cons_succ]
  refine wpAnyH_take (i := 24) (v := ?_) rfl (by kernel_rfl) (by kernel_rfl) (by kernel_rfl) (fun _ _ _ h => h) (Or.inl ⟨by kernel_rfl, ?_⟩) B20.all ?_
  rotate_left
  · (intro w0 hSw; (try dsimp only at hSw); obtain ⟨c0, c1, c2, hLB⟩ := hSw; go_simp; try with_reducible rfl)
  try dsimp only [List.getElem_toArray, List.getElem_cons_succ, List.getElem_cons_zero, Act.put]
  try simp only [List.setIfInBounds_toArray, List.set_cons_zero, List.set_cons_succ]
  refine wpAnyH_take (i := 25) (v := ?_) rfl (by kernel_rfl) (by kernel_rfl) (by kernel_rfl) (fun _ _ _ h => h) (Or.inl ⟨by kernel_rfl, ?_⟩) B20.all ?_
  rotate_left
  · (intro w0 hSw; (try dsimp only at hSw); obtain ⟨c0, c1, c2, hLB⟩ := hSw; go_simp; try with_reducible rfl)
  try dsimp only [List.getElem_toArray, List.getElem_cons_succ, List.getElem_cons_zero, Act.put]
  try simp only [List.setIfInBounds_toArray, List.set_cons_zero, List.set_cons_succ]
  refine wpAnyH_take (i := 27) (v := ?_) rfl (by kernel_rfl) (by kernel_rfl) (by kernel_rfl) (fun _ _ _ h => h) (Or.inl ⟨by kernel_rfl, ?_⟩) B20.all ?_
  rotate_left
  · (intro w0 hSw; (try dsimp only at hSw); obtain ⟨c0, c1, c2, hLB⟩ := hSw; go_simp; try with_reducible rfl)
  try dsimp only [List.getElem_toArray, List.getElem_cons_succ, List.getElem_cons_zero, Act.put]
  try simp only [List.setIfInBounds_toArray, List.set_cons_zero, List.set_cons_succ]
  refine wpAnyH_take (i := 29) (v := ?_) rfl (by kernel_rfl) (by kernel_rfl) (by kernel_rfl) (fun _ _ _ h => h) (Or.inl ⟨by kernel_rfl, ?_⟩) B20.all ?_
  rotate_left
  · (intro w0 hSw; (try dsimp only at hSw); obtain ⟨c0, c1, c2, hLB⟩ := hSw; go_simp; try with_reducible rfl)
  try dsimp only [List.getElem_toArray, List.getElem_cons_succ, List.getElem_cons_zero, Act.put]
  try simp only [List.setIfInBounds_toArray, List.set_cons_zero, List.set_cons_succ]
  refine wpAnyH_ready (rs := [26]) (by kernel_rfl) (by simp) (AllReadyH.cons rfl (fun K hK => ?_) AllReadyH.nil)
  go_simp
  go_at_call 18
  (with_reducible refine (H18.out _ B20.iv B20.iu).mono ?_)
  rintro e W26 ⟨rfl, h26⟩
  have B26 := B20.next h26
  replace In := HasRts.next In h26
  replace Im := HasRts.next Im h26
  refine hK.out _ _ B26.all (fun hHeld26 => ?_)
  clear hK K hHeld26
  try dsimp only [List.getElem_toArray, List.getElem_cons_succ, List.getElem_cons_zero, Act.put]
  try simp only [List.setIfInBounds_toArray, List.set_cons_zero, List.set_cons_succ]
  refine wpAnyH_ready (rs := [28]) (by kernel_rfl) (by simp) (AllReadyH.cons rfl (fun K hK => ?_) AllReadyH.nil)
  go_simp
  go_at_call 12
  (with_reducible refine (H12.out _ _ _ B26.iv).mono ?_)
  rintro e W28 ⟨rfl, h28⟩
  have B28 := B26.next h28
  replace In := HasRts.next In h28
  replace Im := HasRts.next Im h28
  refine hK.out _ _ B28.all (fun hHeld28 => ?_)
  clear hK K hHeld28
  try dsimp only [List.getElem_toArray, List.getElem_cons_succ, List.getElem_cons_zero, Act.put]
  try simp only [List.setIfInBounds_toArray, List.set_cons_zero, List.set_cons_succ]
  refine wpAnyH_ready (rs := [30]) (by kernel_rfl) (by simp) (AllReadyH.cons rfl (fun K hK => ?_) AllReadyH.nil)
  go_simp
  go_at_call 12
  (with_reducible refine (H12.out _ _ _ B28.iu).mono ?_)
  rintro e W30 ⟨rfl, h30⟩
  have B30 := B28.next h30
  replace In := HasRts.next In h30
  replace Im := HasRts.next Im h30
  refine hK.out _ _ B30.all (fun hHeld30 => ?_)
  clear hK K hHeld30
  try dsimp only [List.getElem_toArray, List.getElem_cons_succ, List.getElem_cons_zero, Act.put]
  try simp only [List.setIfInBounds_toArray, List.set_cons_zero, List.set_cons_succ]
  refine wpAnyH_ready (rs := [31]) (by kernel_rfl) (by simp) (AllReadyH.cons rfl (fun K hK => ?_) AllReadyH.nil)
  go_simp
  go_at_call 13
  (with_reducible refine (H13.out _ B30.iv B30.iu).mono ?_)
  rintro e W31 ⟨rfl, h31⟩
  have B31 := B30.next h31
  replace In := HasRts.next In h31
  replace Im := HasRts.next Im h31
  refine hK.out _ _ B31.all (fun hHeld31 => ?_)
  clear hK K hHeld31
  try dsimp only [List.getElem_toArray, List.getElem_cons_succ, List.getElem_cons_zero, Act.put]
  try simp only [List.setIfInBounds_toArray, List.set_cons_zero, List.set_cons_succ]
  refine wpAnyH_take (i := 32) (v := .bool true) rfl (by kernel_rfl) (by kernel_rfl) (by kernel_rfl) (fun _ _ _ h => h) (Or.inl ⟨by kernel_rfl, ?_⟩) B31.all ?_
  · (intro w0 hSw; (try dsimp only at hSw); obtain ⟨c0, c1, c2, hLB⟩ := hSw; go_simp; try rfl)
  try dsimp only [List.getElem_toArray, List.getElem_cons_succ, List.getElem_cons_zero, Act.put]
  try simp only [List.setIfInBounds_toArray, List.set_cons_zero, List.set_cons_succ]
  refine wpAnyH_take (i := 33) (v := ?_) rfl (by kernel_rfl) (by kernel_rfl) (by kernel_rfl) (fun _ _ _ h => h) (Or.inl ⟨by kernel_rfl, ?_⟩) B31.all ?_
  rotate_left
  · (intro w0 hSw; (try dsimp only at hSw); obtain ⟨c0, c1, c2, hLB⟩ := hSw; go_simp; try with_reducible rfl)
  try dsimp only [List.getElem_toArray, List.getElem_cons_succ, List.getElem_cons_zero, Act.put]
  try simp only [List.setIfInBounds_toArray, List.set_cons_zero, List.set_cons_succ]
  refine wpAnyH_take (i := 34) (v := ?_) rfl (by kernel_rfl) (by kernel_rfl) (by kernel_rfl) (fun _ _ _ h => h) (Or.inl ⟨by kernel_rfl, ?_⟩) B31.all ?_
  rotate_left
  · (intro w0 hSw; (try dsimp only at hSw); obtain ⟨c0, c1, c2, hLB⟩ := hSw; go_simp; try with_reducible rfl)
  try dsimp only [List.getElem_toArray, List.getElem_cons_succ, List.getElem_cons_zero, Act.put]
  try simp only [List.setIfInBounds_toArray, List.set_cons_zero, List.set_cons_succ]
  refine wpAnyH_done (by kernel_rfl) ?_ _
  try dsimp only [List.getElem_toArray, List.getElem_cons_succ, List.getElem_cons_zero, Act.put]
  try simp only [List.setIfInBounds_toArray, List.set_cons_zero, List.set_cons_succ]
  go_wp2
  go_ret
  exact ⟨rfl, B31.below⟩
theorem Try.PlanTells_all (v : Value) (rr : Rts) (u : Value) (ss : Rts) (w : World) (hv : HasRts w v rr) (hu : HasRts w u ss) :
    Calls Try.prog 3 #[planV v, planV u] w fun e w' => e = .returned (.bool true) ∧ Below w.heap.size w w' := by
  cases h1 : longR rr with
  | true => exact Try.PlanTells_long v u rr ss w hv hu (.inl h1)
  | false =>
    cases h2 : longR ss with
    | true => exact Try.PlanTells_long v u rr ss w hv hu (.inr ⟨h1, h2⟩)
    | false => exact Try.PlanTells_calls v u rr ss w hv hu h1 h2
#print axioms Try.PlanTells_all
end Go.Proofs
