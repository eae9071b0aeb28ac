/- The landed head's Print. Conditions: the tables hold what the card lays; the name is no longer than a hundred thousand bytes. -/
import Derived.Test.YtmmmgljekoebpaaGreatDoorG11
import Derived.Test.YtmmmgljekoebpaaGreatDoorG07
import Derived.Test.YtmmmgljekoebpaaGreatDoorG01
namespace Go.Proofs
open Go.RowKit Go.Shelf Go.Hdr Go.Fx Go.Wds Go.Metric Go.Layout
attribute [local go_sem] Oper.semAt_some
set_option linter.unusedVariables false
theorem lineH_le (k v : ByteArray) (hk : k.size ≤ 100) (hv : v.size ≤ 100000) : (lineH k v).size ≤ 100200 := by
  have e : (lineH k v).size = k.size + 3 + v.size + 1 := by unfold lineH; rw [ByteArray.size_append, ByteArray.size_append, ByteArray.size_append]; rfl
  omega
theorem Tryz.hnum_calls (d : Int) (h : 0 ≤ d ∧ d ≤ 100000000) (w : World) (hF : FxTab w) :
    Calls Tryz.prog 20 #[.int .i64 d] w fun e w' => e = .returned (.string (numS d)) ∧ Below w.heap.size w w' := by
  obtain ⟨n, rfl⟩ : ∃ n : Nat, d = n := ⟨d.toNat, by omega⟩
  refine (Tryz.itoa_nat n (by omega) w hF).mono fun e w' h => ⟨h.1.trans ?_, h.2⟩
  unfold numS
  rw [Lib.itoa_nonneg]
set_option maxRecDepth 100000 in
set_option maxHeartbeats 4000000 in
theorem Tryz.hprint_no (h : Hd) (w : World) (hs : h.name.size ≤ 2000000) (hK : KeyTab w) (hL : LayTab w) (hm : mayH h = false) :
    Calls Tryz.prog 7 #[hdV h] w fun e w' => e = .returned (.string (printE h)) ∧ Below w.heap.size w w' := by
  have e : printE h = ⟨#[]⟩ := by unfold printE; rw [hm]; rfl
  rw [e]
  clear e
  have RM := fun w hk hl => Tryz.hmay_calls h w hs hk hl
  rw [hm] at RM
  have TK := Lib.hid fun W (h : Below w.heap.size w W) => hK.below h
  have TL := Lib.hid fun W (h : Below w.heap.size w W) => hL.below h
  clear hm hK hL
  obtain ⟨nm, k, d, c, m, l⟩ := h
  unfold hdV at RM ⊢
  have HRM := Lib.hid RM
  clear RM
  go_enter Tryz.func7, Tryz.ntmps7
  go_wp2_with (go_at_call 8; (with_reducible refine (HRM.out _ (TK.out _ (below_one_h _ _)) (TL.out _ (below_one_h _ _))).mono ?_); rintro e w1 ⟨rfl, hw1⟩; have B1 := Lib.hid (hd_below _ _ hw1); clear hw1)
  go_ret
  exact ⟨rfl, B1.out⟩
set_option maxRecDepth 100000 in
set_option maxHeartbeats 8000000 in
theorem Tryz.hprint_10 (nm : ByteArray) (d m : Int) (w : World) (hs : nm.size ≤ 100000) (hK : KeyTab w) (hL : LayTab w) (hF : FxTab w) (hm : mayH ⟨nm, 1, d, 0, m, 0⟩ = true) (h0 : m ≠ 0) (hd : 1 ≤ d ∧ d ≤ 400) :
    Calls Tryz.prog 7 #[hdV ⟨nm, 1, d, 0, m, 0⟩] w fun e w' => e = .returned (.string (printE ⟨nm, 1, d, 0, m, 0⟩)) ∧ Below w.heap.size w w' := by
  have RM := fun w hk hl => Tryz.hmay_calls ⟨nm, 1, d, 0, m, 0⟩ w (by simpa using (by omega : nm.size ≤ 2000000)) hk hl
  rw [hm] at RM
  have HP : printE ⟨nm, 1, d, 0, m, 0⟩ = lineH hkName nm ++ lineH hkType hkTsp ++ lineH hkDim (numS d) ++ lineH hkMet (kwS m) := by
    unfold printE kindS
    rw [hm]
    simp only [if_true, if_neg h0, show ¬ ((1 : Int) = 2) by decide, if_false]
    simp only [ByteArray.append_empty, show (⟨#[]⟩ : ByteArray) = ByteArray.empty from rfl]
  have TK := Lib.hid fun W (h : Below w.heap.size w W) => hK.below h
  have TL := Lib.hid fun W (h : Below w.heap.size w W) => hL.below h
  have TF := Lib.hid fun W (h : Below w.heap.size w W) => hF.below h
  clear hm hK hL hF
  unfold hdV at RM ⊢
  have HRM := Lib.hid RM
  clear RM
  have n1 : (numS d).size ≤ 100000 := by have := Lib.itoa_length_le d (by omega) (by omega); unfold numS; simp only [ByteArray.size, List.size_toArray]; omega
  have L1 : ∀ w, Calls Tryz.prog 18 #[.string ⟨#[78, 65, 77, 69]⟩, .string nm] w fun e w' => e = .returned (.string (lineH hkName nm)) ∧ w' = w := fun w => Tryz.hline_calls hkName nm w (by decide) hs
  have L2 : ∀ w, Calls Tryz.prog 18 #[.string ⟨#[84, 89, 80, 69]⟩, .string ⟨#[84, 83, 80]⟩] w fun e w' => e = .returned (.string (lineH hkType hkTsp)) ∧ w' = w := fun w => Tryz.hline_calls hkType hkTsp w (by decide) (by decide)
  have L3 : ∀ w, Calls Tryz.prog 18 #[.string ⟨#[68, 73, 77, 69, 78, 83, 73, 79, 78]⟩, .string (numS d)] w fun e w' => e = .returned (.string (lineH hkDim (numS d))) ∧ w' = w := fun w => Tryz.hline_calls hkDim (numS d) w (by decide) n1
  have L5 : ∀ w, Calls Tryz.prog 18 #[.string ⟨#[69, 68, 71, 69, 95, 87, 69, 73, 71, 72, 84, 95, 84, 89, 80, 69]⟩, .string (kwS m)] w fun e w' => e = .returned (.string (lineH hkMet (kwS m))) ∧ w' = w := fun w => Tryz.hline_calls hkMet (kwS m) w (by decide) (Nat.le_trans (kw_short _) (by decide))
  have K1 : ∀ w, Calls Tryz.prog 19 #[.int .i64 1] w fun e w' => e = .returned (.string ⟨#[84, 83, 80]⟩) ∧ w' = w := fun w => Tryz.kwK_calls 1 w
  have I1 := fun w hF => Tryz.hnum_calls d (by omega) w hF
  have M1 := fun w hK => Tryz.Keyword_calls m w hK
  have za1 : (lineH hkName nm).size ≤ 100200 := lineH_le hkName nm (by decide) hs
  have za2 : (lineH hkType hkTsp).size ≤ 100200 := lineH_le hkType hkTsp (by decide) (by decide)
  have za3 : (lineH hkDim (numS d)).size ≤ 100200 := lineH_le hkDim (numS d) (by decide) n1
  have za5 : (lineH hkMet (kwS m)).size ≤ 100200 := lineH_le hkMet (kwS m) (by decide) (Nat.le_trans (kw_short _) (by decide))
  generalize lineH hkName nm = a1 at *
  generalize lineH hkType hkTsp = a2 at *
  generalize lineH hkDim (numS d) = a3 at *
  generalize lineH hkMet (kwS m) = a5 at *
  generalize numS d = nd at *
  generalize hkwm : kwS m = km at *
  clear hkwm n1
  have HP := Lib.hid HP
  have HB := fun w => Lib.hid (HdBox.new w nm 1 d 0 m 0 24)
  go_enter Tryz.func7, Tryz.ntmps7
  go_wp2_with (go_at_call 8; (with_reducible refine (HRM.out _ (TK.out _ (below_one_h _ _)) (TL.out _ (below_one_h _ _))).mono ?_); rintro e w1 ⟨rfl, hw1⟩; have H1 := Lib.hid ((HB w).out.next hw1); have B1 := Lib.hid (hd_below _ _ hw1); obtain ⟨l1, x0, x1, x2, x3, x4, x5⟩ := H1.out; clear hw1)
  refine wp_region_held_drew (S := (fun W => W.cell? ⟨w.heap.size, 0, none⟩ = some (.string nm) ∧ W.cell? ⟨w.heap.size, 1, none⟩ = some (.int .i64 1) ∧ W.cell? ⟨w.heap.size, 2, none⟩ = some (.int .i64 d))) (by kernel_rfl) (⟨x0, x1, x2⟩) (fun hHeld0 => ?_)
  clear hHeld0
  have H1 := Lib.hid H1.out.drew
  have B1 := Lib.hid (below_drew_h B1.out)
  refine wpAnyH_take (i := 0) (v := ?_) rfl (by kernel_rfl) (by kernel_rfl) (by kernel_rfl) (fun _ _ _ h => h) (Or.inl ⟨by kernel_rfl, ?_⟩) (⟨x0, x1, x2⟩) ?_
  rotate_left
  · (intro w0 hSw; (try dsimp only at hSw); obtain ⟨q0, q1, q2⟩ := hSw; go_simp; try with_reducible rfl)
  try dsimp only [List.getElem_toArray, List.getElem_cons_succ, List.getElem_cons_zero, Act.put]
  try simp only [List.setIfInBounds_toArray, List.set_cons_zero, List.set_cons_succ]
  refine wpAnyH_take (i := 1) (v := ?_) rfl (by kernel_rfl) (by kernel_rfl) (by kernel_rfl) (fun _ _ _ h => h) (Or.inl ⟨by kernel_rfl, ?_⟩) (⟨x0, x1, x2⟩) ?_
  rotate_left
  · (intro w0 hSw; (try dsimp only at hSw); obtain ⟨q0, q1, q2⟩ := hSw; go_simp; try with_reducible rfl)
  try dsimp only [List.getElem_toArray, List.getElem_cons_succ, List.getElem_cons_zero, Act.put]
  try simp only [List.setIfInBounds_toArray, List.set_cons_zero, List.set_cons_succ]
  refine wpAnyH_take (i := 3) (v := ?_) rfl (by kernel_rfl) (by kernel_rfl) (by kernel_rfl) (fun _ _ _ h => h) (Or.inl ⟨by kernel_rfl, ?_⟩) (⟨x0, x1, x2⟩) ?_
  rotate_left
  · (intro w0 hSw; (try dsimp only at hSw); obtain ⟨q0, q1, q2⟩ := hSw; go_simp; try with_reducible rfl)
  try dsimp only [List.getElem_toArray, List.getElem_cons_succ, List.getElem_cons_zero, Act.put]
  try simp only [List.setIfInBounds_toArray, List.set_cons_zero, List.set_cons_succ]
  refine wpAnyH_take (i := 4) (v := ?_) rfl (by kernel_rfl) (by kernel_rfl) (by kernel_rfl) (fun _ _ _ h => h) (Or.inl ⟨by kernel_rfl, ?_⟩) (⟨x0, x1, x2⟩) ?_
  rotate_left
  · (intro w0 hSw; (try dsimp only at hSw); obtain ⟨q0, q1, q2⟩ := hSw; go_simp; try with_reducible rfl)
  try dsimp only [List.getElem_toArray, List.getElem_cons_succ, List.getElem_cons_zero, Act.put]
  try simp only [List.setIfInBounds_toArray, List.set_cons_zero, List.set_cons_succ]
  refine wpAnyH_take (i := 8) (v := ?_) rfl (by kernel_rfl) (by kernel_rfl) (by kernel_rfl) (fun _ _ _ h => h) (Or.inl ⟨by kernel_rfl, ?_⟩) (⟨x0, x1, x2⟩) ?_
  rotate_left
  · (intro w0 hSw; (try dsimp only at hSw); obtain ⟨q0, q1, q2⟩ := hSw; go_simp; try with_reducible rfl)
  try dsimp only [List.getElem_toArray, List.getElem_cons_succ, List.getElem_cons_zero, Act.put]
  try simp only [List.setIfInBounds_toArray, List.set_cons_zero, List.set_cons_succ]
  refine wpAnyH_take (i := 9) (v := ?_) rfl (by kernel_rfl) (by kernel_rfl) (by kernel_rfl) (fun _ _ _ h => h) (Or.inl ⟨by kernel_rfl, ?_⟩) (⟨x0, x1, x2⟩) ?_
  rotate_left
  · (intro w0 hSw; (try dsimp only at hSw); obtain ⟨q0, q1, q2⟩ := hSw; go_simp; try with_reducible rfl)
  try dsimp only [List.getElem_toArray, List.getElem_cons_succ, List.getElem_cons_zero, Act.put]
  try simp only [List.setIfInBounds_toArray, List.set_cons_zero, List.set_cons_succ]
  refine wpAnyH_ready (rs := [2]) (by kernel_rfl) (by simp) (AllReadyH.cons rfl (fun KK hKK => ?_) AllReadyH.nil)
  go_simp
  go_at_call 18
  (with_reducible refine (L1 _).mono ?_)
  rintro e v2 ⟨rfl, hv2⟩
  subst hv2
  refine hKK.out _ _ (⟨x0, x1, x2⟩) (fun _ => ?_)
  clear hKK KK
  try dsimp only [List.getElem_toArray, List.getElem_cons_succ, List.getElem_cons_zero, Act.put]
  try simp only [List.setIfInBounds_toArray, List.set_cons_zero, List.set_cons_succ]
  refine wpAnyH_ready (rs := [5]) (by kernel_rfl) (by simp) (AllReadyH.cons rfl (fun KK hKK => ?_) AllReadyH.nil)
  go_simp
  go_at_call 19
  (with_reducible refine (K1 _).mono ?_)
  rintro e v5 ⟨rfl, hv5⟩
  subst hv5
  refine hKK.out _ _ (⟨x0, x1, x2⟩) (fun _ => ?_)
  clear hKK KK
  try dsimp only [List.getElem_toArray, List.getElem_cons_succ, List.getElem_cons_zero, Act.put]
  try simp only [List.setIfInBounds_toArray, List.set_cons_zero, List.set_cons_succ]
  refine wpAnyH_ready (rs := [6]) (by kernel_rfl) (by simp) (AllReadyH.cons rfl (fun KK hKK => ?_) AllReadyH.nil)
  go_simp
  go_at_call 18
  (with_reducible refine (L2 _).mono ?_)
  rintro e v6 ⟨rfl, hv6⟩
  subst hv6
  refine hKK.out _ _ (⟨x0, x1, x2⟩) (fun _ => ?_)
  clear hKK KK
  try dsimp only [List.getElem_toArray, List.getElem_cons_succ, List.getElem_cons_zero, Act.put]
  try simp only [List.setIfInBounds_toArray, List.set_cons_zero, List.set_cons_succ]
  refine wpAnyH_take (i := 7) (v := ?_) rfl (by kernel_rfl) (by kernel_rfl) (by kernel_rfl) (fun _ _ _ h => h) (Or.inl ⟨by kernel_rfl, ?_⟩) (⟨x0, x1, x2⟩) ?_
  rotate_left
  · (intro w0 hSw; (try dsimp only at hSw); obtain ⟨q0, q1, q2⟩ := hSw; go_simp; first | with_reducible rfl | (rw [if_neg (by omega)]))
  try dsimp only [List.getElem_toArray, List.getElem_cons_succ, List.getElem_cons_zero, Act.put]
  try simp only [List.setIfInBounds_toArray, List.set_cons_zero, List.set_cons_succ]
  refine wpAnyH_ready (rs := [10]) (by kernel_rfl) (by simp) (AllReadyH.cons rfl (fun KK hKK => ?_) AllReadyH.nil)
  go_simp
  go_at_call 20
  (with_reducible refine (I1 _ (TF.out _ B1.out)).mono ?_)
  rintro e w2 ⟨rfl, hw2⟩
  have H2 := Lib.hid (H1.out.next hw2)
  have B2 := Lib.hid (hstep B1.out hw2)
  refine hKK.out _ _ (⟨H2.out.c0, H2.out.c1, H2.out.c2⟩) (fun _ => ?_)
  clear hKK KK
  try dsimp only [List.getElem_toArray, List.getElem_cons_succ, List.getElem_cons_zero, Act.put]
  try simp only [List.setIfInBounds_toArray, List.set_cons_zero, List.set_cons_succ]
  clear hw2
  refine wpAnyH_ready (rs := [11]) (by kernel_rfl) (by simp) (AllReadyH.cons rfl (fun KK hKK => ?_) AllReadyH.nil)
  go_simp
  go_at_call 18
  (with_reducible refine (L3 _).mono ?_)
  rintro e v11 ⟨rfl, hv11⟩
  subst hv11
  refine hKK.out _ _ (⟨H2.out.c0, H2.out.c1, H2.out.c2⟩) (fun _ => ?_)
  clear hKK KK
  try dsimp only [List.getElem_toArray, List.getElem_cons_succ, List.getElem_cons_zero, Act.put]
  try simp only [List.setIfInBounds_toArray, List.set_cons_zero, List.set_cons_succ]
  refine wpAnyH_take (i := 12) (v := ?_) rfl (by kernel_rfl) (by kernel_rfl) (by kernel_rfl) (fun _ _ _ h => h) (Or.inl ⟨by kernel_rfl, ?_⟩) (⟨H2.out.c0, H2.out.c1, H2.out.c2⟩) ?_
  rotate_left
  · (intro w0 hSw; (try dsimp only at hSw); obtain ⟨q0, q1, q2⟩ := hSw; go_simp; first | with_reducible rfl | (rw [if_neg (by omega)]))
  try dsimp only [List.getElem_toArray, List.getElem_cons_succ, List.getElem_cons_zero, Act.put]
  try simp only [List.setIfInBounds_toArray, List.set_cons_zero, List.set_cons_succ]
  refine wpAnyH_take (i := 13) (v := ?_) rfl (by kernel_rfl) (by kernel_rfl) (by kernel_rfl) (fun _ _ _ h => h) (Or.inl ⟨by kernel_rfl, ?_⟩) (⟨H2.out.c0, H2.out.c1, H2.out.c2⟩) ?_
  rotate_left
  · (intro w0 hSw; (try dsimp only at hSw); obtain ⟨q0, q1, q2⟩ := hSw; go_simp; first | with_reducible rfl | (rw [if_neg (by omega)]))
  try dsimp only [List.getElem_toArray, List.getElem_cons_succ, List.getElem_cons_zero, Act.put]
  try simp only [List.setIfInBounds_toArray, List.set_cons_zero, List.set_cons_succ]
  refine wpAnyH_done (by kernel_rfl) ?_ _
  try dsimp only [List.getElem_toArray, List.getElem_cons_succ, List.getElem_cons_zero, Act.put]
  try simp only [List.setIfInBounds_toArray, List.set_cons_zero, List.set_cons_succ]
  obtain ⟨l2, y0, y1, y2, y3, y4, y5⟩ := H2.out
  have z12 : (a1 ++ a2 ++ a3).size ≤ 400000 := by simp only [ByteArray.size_append]; omega
  go_wp2_with (first | (go_at_call 21; (with_reducible refine (M1 _ (TK.out _ (by first | exact B4.out | exact B2.out))).mono ?_); rintro e v3 ⟨rfl, hv3⟩; subst hv3) | (go_at_call 18; (first | (with_reducible refine (L5 _).mono ?_)); rintro e v4 ⟨rfl, hv4⟩; subst hv4))
  all_goals first | (exfalso; simp only [ByteArray.size_append] at *; omega) | skip
  refine bodyPost_ret (v := .string (a1 ++ a2 ++ a3 ++ a5)) (by simp [results, Tryz.results7, go_sem]) rfl ⟨by rw [HP.out], B2.out⟩
set_option maxRecDepth 100000 in
set_option maxHeartbeats 8000000 in
theorem Tryz.hprint_11 (nm : ByteArray) (d l : Int) (w : World) (hs : nm.size ≤ 100000) (hK : KeyTab w) (hL : LayTab w) (hF : FxTab w) (hm : mayH ⟨nm, 1, d, 0, 0, l⟩ = true) (hd : 1 ≤ d ∧ d ≤ 400) :
    Calls Tryz.prog 7 #[hdV ⟨nm, 1, d, 0, 0, l⟩] w fun e w' => e = .returned (.string (printE ⟨nm, 1, d, 0, 0, l⟩)) ∧ Below w.heap.size w w' := by
  have RM := fun w hk hl => Tryz.hmay_calls ⟨nm, 1, d, 0, 0, l⟩ w (by simpa using (by omega : nm.size ≤ 2000000)) hk hl
  rw [hm] at RM
  have HP : printE ⟨nm, 1, d, 0, 0, l⟩ = lineH hkName nm ++ lineH hkType hkTsp ++ lineH hkDim (numS d) ++ lineH hkMet (kwS 0) ++ lineH hkLay (lkwS l) := by
    unfold printE kindS
    rw [hm]
    simp only [if_true, show ¬ ((1 : Int) = 2) by decide, if_false]
    simp only [ByteArray.append_empty, show (⟨#[]⟩ : ByteArray) = ByteArray.empty from rfl]
  have TK := Lib.hid fun W (h : Below w.heap.size w W) => hK.below h
  have TL := Lib.hid fun W (h : Below w.heap.size w W) => hL.below h
  have TF := Lib.hid fun W (h : Below w.heap.size w W) => hF.below h
  clear hm hK hL hF
  unfold hdV at RM ⊢
  have HRM := Lib.hid RM
  clear RM
  have n1 : (numS d).size ≤ 100000 := by have := Lib.itoa_length_le d (by omega) (by omega); unfold numS; simp only [ByteArray.size, List.size_toArray]; omega
  have L1 : ∀ w, Calls Tryz.prog 18 #[.string ⟨#[78, 65, 77, 69]⟩, .string nm] w fun e w' => e = .returned (.string (lineH hkName nm)) ∧ w' = w := fun w => Tryz.hline_calls hkName nm w (by decide) hs
  have L2 : ∀ w, Calls Tryz.prog 18 #[.string ⟨#[84, 89, 80, 69]⟩, .string ⟨#[84, 83, 80]⟩] w fun e w' => e = .returned (.string (lineH hkType hkTsp)) ∧ w' = w := fun w => Tryz.hline_calls hkType hkTsp w (by decide) (by decide)
  have L3 : ∀ w, Calls Tryz.prog 18 #[.string ⟨#[68, 73, 77, 69, 78, 83, 73, 79, 78]⟩, .string (numS d)] w fun e w' => e = .returned (.string (lineH hkDim (numS d))) ∧ w' = w := fun w => Tryz.hline_calls hkDim (numS d) w (by decide) n1
  have L5 : ∀ w, Calls Tryz.prog 18 #[.string ⟨#[69, 68, 71, 69, 95, 87, 69, 73, 71, 72, 84, 95, 84, 89, 80, 69]⟩, .string (kwS 0)] w fun e w' => e = .returned (.string (lineH hkMet (kwS 0))) ∧ w' = w := fun w => Tryz.hline_calls hkMet (kwS 0) w (by decide) (Nat.le_trans (kw_short _) (by decide))
  have K1 : ∀ w, Calls Tryz.prog 19 #[.int .i64 1] w fun e w' => e = .returned (.string ⟨#[84, 83, 80]⟩) ∧ w' = w := fun w => Tryz.kwK_calls 1 w
  have I1 := fun w hF => Tryz.hnum_calls d (by omega) w hF
  have M1 := fun w hK => Tryz.Keyword_calls 0 w hK
  have L6 : ∀ w, Calls Tryz.prog 18 #[.string ⟨#[69, 68, 71, 69, 95, 87, 69, 73, 71, 72, 84, 95, 70, 79, 82, 77, 65, 84]⟩, .string (lkwS l)] w fun e w' => e = .returned (.string (lineH hkLay (lkwS l))) ∧ w' = w := fun w => Tryz.hline_calls hkLay (lkwS l) w (by decide) (Nat.le_trans (lkw_short _) (by decide))
  have X1 := fun w hL => Tryz.LKeyword_calls l w hL
  have za1 : (lineH hkName nm).size ≤ 100200 := lineH_le hkName nm (by decide) hs
  have za2 : (lineH hkType hkTsp).size ≤ 100200 := lineH_le hkType hkTsp (by decide) (by decide)
  have za3 : (lineH hkDim (numS d)).size ≤ 100200 := lineH_le hkDim (numS d) (by decide) n1
  have za5 : (lineH hkMet (kwS 0)).size ≤ 100200 := lineH_le hkMet (kwS 0) (by decide) (Nat.le_trans (kw_short _) (by decide))
  have za6 : (lineH hkLay (lkwS l)).size ≤ 100200 := lineH_le hkLay (lkwS l) (by decide) (Nat.le_trans (lkw_short _) (by decide))
  generalize lineH hkName nm = a1 at *
  generalize lineH hkType hkTsp = a2 at *
  generalize lineH hkDim (numS d) = a3 at *
  generalize lineH hkMet (kwS 0) = a5 at *
  generalize lineH hkLay (lkwS l) = a6 at *
  generalize numS d = nd at *
  generalize hkwm : kwS 0 = km at *
  generalize lkwS l = kl at *
  clear hkwm n1
  have HP := Lib.hid HP
  have HB := fun w => Lib.hid (HdBox.new w nm 1 d 0 0 l 24)
  go_enter Tryz.func7, Tryz.ntmps7
  go_wp2_with (go_at_call 8; (with_reducible refine (HRM.out _ (TK.out _ (below_one_h _ _)) (TL.out _ (below_one_h _ _))).mono ?_); rintro e w1 ⟨rfl, hw1⟩; have H1 := Lib.hid ((HB w).out.next hw1); have B1 := Lib.hid (hd_below _ _ hw1); obtain ⟨l1, x0, x1, x2, x3, x4, x5⟩ := H1.out; clear hw1)
  refine wp_region_held_drew (S := (fun W => W.cell? ⟨w.heap.size, 0, none⟩ = some (.string nm) ∧ W.cell? ⟨w.heap.size, 1, none⟩ = some (.int .i64 1) ∧ W.cell? ⟨w.heap.size, 2, none⟩ = some (.int .i64 d))) (by kernel_rfl) (⟨x0, x1, x2⟩) (fun hHeld0 => ?_)
  clear hHeld0
  have H1 := Lib.hid H1.out.drew
  have B1 := Lib.hid (below_drew_h B1.out)
  refine wpAnyH_take (i := 0) (v := ?_) rfl (by kernel_rfl) (by kernel_rfl) (by kernel_rfl) (fun _ _ _ h => h) (Or.inl ⟨by kernel_rfl, ?_⟩) (⟨x0, x1, x2⟩) ?_
  rotate_left
  · (intro w0 hSw; (try dsimp only at hSw); obtain ⟨q0, q1, q2⟩ := hSw; go_simp; try with_reducible rfl)
  try dsimp only [List.getElem_toArray, List.getElem_cons_succ, List.getElem_cons_zero, Act.put]
  try simp only [List.setIfInBounds_toArray, List.set_cons_zero, List.set_cons_succ]
  refine wpAnyH_take (i := 1) (v := ?_) rfl (by kernel_rfl) (by kernel_rfl) (by kernel_rfl) (fun _ _ _ h => h) (Or.inl ⟨by kernel_rfl, ?_⟩) (⟨x0, x1, x2⟩) ?_
  rotate_left
  · (intro w0 hSw; (try dsimp only at hSw); obtain ⟨q0, q1, q2⟩ := hSw; go_simp; try with_reducible rfl)
  try dsimp only [List.getElem_toArray, List.getElem_cons_succ, List.getElem_cons_zero, Act.put]
  try simp only [List.setIfInBounds_toArray, List.set_cons_zero, List.set_cons_succ]
  refine wpAnyH_take (i := 3) (v := ?_) rfl (by kernel_rfl) (by kernel_rfl) (by kernel_rfl) (fun _ _ _ h => h) (Or.inl ⟨by kernel_rfl, ?_⟩) (⟨x0, x1, x2⟩) ?_
  rotate_left
  · (intro w0 hSw; (try dsimp only at hSw); obtain ⟨q0, q1, q2⟩ := hSw; go_simp; try with_reducible rfl)
  try dsimp only [List.getElem_toArray, List.getElem_cons_succ, List.getElem_cons_zero, Act.put]
  try simp only [List.setIfInBounds_toArray, List.set_cons_zero, List.set_cons_succ]
  refine wpAnyH_take (i := 4) (v := ?_) rfl (by kernel_rfl) (by kernel_rfl) (by kernel_rfl) (fun _ _ _ h => h) (Or.inl ⟨by kernel_rfl, ?_⟩) (⟨x0, x1, x2⟩) ?_
  rotate_left
  · (intro w0 hSw; (try dsimp only at hSw); obtain ⟨q0, q1, q2⟩ := hSw; go_simp; try with_reducible rfl)
  try dsimp only [List.getElem_toArray, List.getElem_cons_succ, List.getElem_cons_zero, Act.put]
  try simp only [List.setIfInBounds_toArray, List.set_cons_zero, List.set_cons_succ]
  refine wpAnyH_take (i := 8) (v := ?_) rfl (by kernel_rfl) (by kernel_rfl) (by kernel_rfl) (fun _ _ _ h => h) (Or.inl ⟨by kernel_rfl, ?_⟩) (⟨x0, x1, x2⟩) ?_
  rotate_left
  · (intro w0 hSw; (try dsimp only at hSw); obtain ⟨q0, q1, q2⟩ := hSw; go_simp; try with_reducible rfl)
  try dsimp only [List.getElem_toArray, List.getElem_cons_succ, List.getElem_cons_zero, Act.put]
  try simp only [List.setIfInBounds_toArray, List.set_cons_zero, List.set_cons_succ]
  refine wpAnyH_take (i := 9) (v := ?_) rfl (by kernel_rfl) (by kernel_rfl) (by kernel_rfl) (fun _ _ _ h => h) (Or.inl ⟨by kernel_rfl, ?_⟩) (⟨x0, x1, x2⟩) ?_
  rotate_left
  · (intro w0 hSw; (try dsimp only at hSw); obtain ⟨q0, q1, q2⟩ := hSw; go_simp; try with_reducible rfl)
  try dsimp only [List.getElem_toArray, List.getElem_cons_succ, List.getElem_cons_zero, Act.put]
  try simp only [List.setIfInBounds_toArray, List.set_cons_zero, List.set_cons_succ]
  refine wpAnyH_ready (rs := [2]) (by kernel_rfl) (by simp) (AllReadyH.cons rfl (fun KK hKK => ?_) AllReadyH.nil)
  go_simp
  go_at_call 18
  (with_reducible refine (L1 _).mono ?_)
  rintro e v2 ⟨rfl, hv2⟩
  subst hv2
  refine hKK.out _ _ (⟨x0, x1, x2⟩) (fun _ => ?_)
  clear hKK KK
  try dsimp only [List.getElem_toArray, List.getElem_cons_succ, List.getElem_cons_zero, Act.put]
  try simp only [List.setIfInBounds_toArray, List.set_cons_zero, List.set_cons_succ]
  refine wpAnyH_ready (rs := [5]) (by kernel_rfl) (by simp) (AllReadyH.cons rfl (fun KK hKK => ?_) AllReadyH.nil)
  go_simp
  go_at_call 19
  (with_reducible refine (K1 _).mono ?_)
  rintro e v5 ⟨rfl, hv5⟩
  subst hv5
  refine hKK.out _ _ (⟨x0, x1, x2⟩) (fun _ => ?_)
  clear hKK KK
  try dsimp only [List.getElem_toArray, List.getElem_cons_succ, List.getElem_cons_zero, Act.put]
  try simp only [List.setIfInBounds_toArray, List.set_cons_zero, List.set_cons_succ]
  refine wpAnyH_ready (rs := [6]) (by kernel_rfl) (by simp) (AllReadyH.cons rfl (fun KK hKK => ?_) AllReadyH.nil)
  go_simp
  go_at_call 18
  (with_reducible refine (L2 _).mono ?_)
  rintro e v6 ⟨rfl, hv6⟩
  subst hv6
  refine hKK.out _ _ (⟨x0, x1, x2⟩) (fun _ => ?_)
  clear hKK KK
  try dsimp only [List.getElem_toArray, List.getElem_cons_succ, List.getElem_cons_zero, Act.put]
  try simp only [List.setIfInBounds_toArray, List.set_cons_zero, List.set_cons_succ]
  refine wpAnyH_take (i := 7) (v := ?_) rfl (by kernel_rfl) (by kernel_rfl) (by kernel_rfl) (fun _ _ _ h => h) (Or.inl ⟨by kernel_rfl, ?_⟩) (⟨x0, x1, x2⟩) ?_
  rotate_left
  · (intro w0 hSw; (try dsimp only at hSw); obtain ⟨q0, q1, q2⟩ := hSw; go_simp; first | with_reducible rfl | (rw [if_neg (by omega)]))
  try dsimp only [List.getElem_toArray, List.getElem_cons_succ, List.getElem_cons_zero, Act.put]
  try simp only [List.setIfInBounds_toArray, List.set_cons_zero, List.set_cons_succ]
  refine wpAnyH_ready (rs := [10]) (by kernel_rfl) (by simp) (AllReadyH.cons rfl (fun KK hKK => ?_) AllReadyH.nil)
  go_simp
  go_at_call 20
  (with_reducible refine (I1 _ (TF.out _ B1.out)).mono ?_)
  rintro e w2 ⟨rfl, hw2⟩
  have H2 := Lib.hid (H1.out.next hw2)
  have B2 := Lib.hid (hstep B1.out hw2)
  refine hKK.out _ _ (⟨H2.out.c0, H2.out.c1, H2.out.c2⟩) (fun _ => ?_)
  clear hKK KK
  try dsimp only [List.getElem_toArray, List.getElem_cons_succ, List.getElem_cons_zero, Act.put]
  try simp only [List.setIfInBounds_toArray, List.set_cons_zero, List.set_cons_succ]
  clear hw2
  refine wpAnyH_ready (rs := [11]) (by kernel_rfl) (by simp) (AllReadyH.cons rfl (fun KK hKK => ?_) AllReadyH.nil)
  go_simp
  go_at_call 18
  (with_reducible refine (L3 _).mono ?_)
  rintro e v11 ⟨rfl, hv11⟩
  subst hv11
  refine hKK.out _ _ (⟨H2.out.c0, H2.out.c1, H2.out.c2⟩) (fun _ => ?_)
  clear hKK KK
  try dsimp only [List.getElem_toArray, List.getElem_cons_succ, List.getElem_cons_zero, Act.put]
  try simp only [List.setIfInBounds_toArray, List.set_cons_zero, List.set_cons_succ]
  refine wpAnyH_take (i := 12) (v := ?_) rfl (by kernel_rfl) (by kernel_rfl) (by kernel_rfl) (fun _ _ _ h => h) (Or.inl ⟨by kernel_rfl, ?_⟩) (⟨H2.out.c0, H2.out.c1, H2.out.c2⟩) ?_
  rotate_left
  · (intro w0 hSw; (try dsimp only at hSw); obtain ⟨q0, q1, q2⟩ := hSw; go_simp; first | with_reducible rfl | (rw [if_neg (by omega)]))
  try dsimp only [List.getElem_toArray, List.getElem_cons_succ, List.getElem_cons_zero, Act.put]
  try simp only [List.setIfInBounds_toArray, List.set_cons_zero, List.set_cons_succ]
  refine wpAnyH_take (i := 13) (v := ?_) rfl (by kernel_rfl) (by kernel_rfl) (by kernel_rfl) (fun _ _ _ h => h) (Or.inl ⟨by kernel_rfl, ?_⟩) (⟨H2.out.c0, H2.out.c1, H2.out.c2⟩) ?_
  rotate_left
  · (intro w0 hSw; (try dsimp only at hSw); obtain ⟨q0, q1, q2⟩ := hSw; go_simp; first | with_reducible rfl | (rw [if_neg (by omega)]))
  try dsimp only [List.getElem_toArray, List.getElem_cons_succ, List.getElem_cons_zero, Act.put]
  try simp only [List.setIfInBounds_toArray, List.set_cons_zero, List.set_cons_succ]
  refine wpAnyH_done (by kernel_rfl) ?_ _
  try dsimp only [List.getElem_toArray, List.getElem_cons_succ, List.getElem_cons_zero, Act.put]
  try simp only [List.setIfInBounds_toArray, List.set_cons_zero, List.set_cons_succ]
  obtain ⟨l2, y0, y1, y2, y3, y4, y5⟩ := H2.out
  have z12 : (a1 ++ a2 ++ a3).size ≤ 400000 := by simp only [ByteArray.size_append]; omega
  go_wp2_with (first | (go_at_call 21; (with_reducible refine (M1 _ (TK.out _ (by first | exact B4.out | exact B2.out))).mono ?_); rintro e v3 ⟨rfl, hv3⟩; subst hv3) | (go_at_call 18; (first | (with_reducible refine (L5 _).mono ?_) | (with_reducible refine (L6 _).mono ?_)); rintro e v4 ⟨rfl, hv4⟩; subst hv4) | (go_at_call 22; (with_reducible refine (X1 _ (TL.out _ (by first | exact B4.out | exact B2.out))).mono ?_); rintro e v5 ⟨rfl, hv5⟩; subst hv5))
  all_goals first | (exfalso; simp only [ByteArray.size_append] at *; omega) | skip
  refine bodyPost_ret (v := .string (a1 ++ a2 ++ a3 ++ a5 ++ a6)) (by simp [results, Tryz.results7, go_sem]) rfl ⟨by rw [HP.out], B2.out⟩
set_option maxRecDepth 100000 in
set_option maxHeartbeats 8000000 in
theorem Tryz.hprint_20 (nm : ByteArray) (d c m : Int) (w : World) (hs : nm.size ≤ 100000) (hK : KeyTab w) (hL : LayTab w) (hF : FxTab w) (hm : mayH ⟨nm, 2, d, c, m, 0⟩ = true) (h0 : m ≠ 0) (hd : 1 ≤ d ∧ d ≤ 400) (hc : 1 ≤ c ∧ c ≤ 100000000) :
    Calls Tryz.prog 7 #[hdV ⟨nm, 2, d, c, m, 0⟩] w fun e w' => e = .returned (.string (printE ⟨nm, 2, d, c, m, 0⟩)) ∧ Below w.heap.size w w' := by
  have RM := fun w hk hl => Tryz.hmay_calls ⟨nm, 2, d, c, m, 0⟩ w (by simpa using (by omega : nm.size ≤ 2000000)) hk hl
  rw [hm] at RM
  have HP : printE ⟨nm, 2, d, c, m, 0⟩ = lineH hkName nm ++ lineH hkType hkCvrp ++ lineH hkDim (numS d) ++ lineH hkCap (numS c) ++ lineH hkMet (kwS m) := by
    unfold printE kindS
    rw [hm]
    simp only [if_true, if_neg h0]
    simp only [ByteArray.append_empty, show (⟨#[]⟩ : ByteArray) = ByteArray.empty from rfl]
  have TK := Lib.hid fun W (h : Below w.heap.size w W) => hK.below h
  have TL := Lib.hid fun W (h : Below w.heap.size w W) => hL.below h
  have TF := Lib.hid fun W (h : Below w.heap.size w W) => hF.below h
  clear hm hK hL hF
  unfold hdV at RM ⊢
  have HRM := Lib.hid RM
  clear RM
  have n1 : (numS d).size ≤ 100000 := by have := Lib.itoa_length_le d (by omega) (by omega); unfold numS; simp only [ByteArray.size, List.size_toArray]; omega
  have L1 : ∀ w, Calls Tryz.prog 18 #[.string ⟨#[78, 65, 77, 69]⟩, .string nm] w fun e w' => e = .returned (.string (lineH hkName nm)) ∧ w' = w := fun w => Tryz.hline_calls hkName nm w (by decide) hs
  have L2 : ∀ w, Calls Tryz.prog 18 #[.string ⟨#[84, 89, 80, 69]⟩, .string ⟨#[67, 86, 82, 80]⟩] w fun e w' => e = .returned (.string (lineH hkType hkCvrp)) ∧ w' = w := fun w => Tryz.hline_calls hkType hkCvrp w (by decide) (by decide)
  have L3 : ∀ w, Calls Tryz.prog 18 #[.string ⟨#[68, 73, 77, 69, 78, 83, 73, 79, 78]⟩, .string (numS d)] w fun e w' => e = .returned (.string (lineH hkDim (numS d))) ∧ w' = w := fun w => Tryz.hline_calls hkDim (numS d) w (by decide) n1
  have L5 : ∀ w, Calls Tryz.prog 18 #[.string ⟨#[69, 68, 71, 69, 95, 87, 69, 73, 71, 72, 84, 95, 84, 89, 80, 69]⟩, .string (kwS m)] w fun e w' => e = .returned (.string (lineH hkMet (kwS m))) ∧ w' = w := fun w => Tryz.hline_calls hkMet (kwS m) w (by decide) (Nat.le_trans (kw_short _) (by decide))
  have K1 : ∀ w, Calls Tryz.prog 19 #[.int .i64 2] w fun e w' => e = .returned (.string ⟨#[67, 86, 82, 80]⟩) ∧ w' = w := fun w => Tryz.kwK_calls 2 w
  have I1 := fun w hF => Tryz.hnum_calls d (by omega) w hF
  have M1 := fun w hK => Tryz.Keyword_calls m w hK
  have n2 : (numS c).size ≤ 100000 := by have := Lib.itoa_length_le c (by omega) (by omega); unfold numS; simp only [ByteArray.size, List.size_toArray]; omega
  have L4 : ∀ w, Calls Tryz.prog 18 #[.string ⟨#[67, 65, 80, 65, 67, 73, 84, 89]⟩, .string (numS c)] w fun e w' => e = .returned (.string (lineH hkCap (numS c))) ∧ w' = w := fun w => Tryz.hline_calls hkCap (numS c) w (by decide) n2
  have I2 := fun w hF => Tryz.hnum_calls c (by omega) w hF
  have za1 : (lineH hkName nm).size ≤ 100200 := lineH_le hkName nm (by decide) hs
  have za2 : (lineH hkType hkCvrp).size ≤ 100200 := lineH_le hkType hkCvrp (by decide) (by decide)
  have za3 : (lineH hkDim (numS d)).size ≤ 100200 := lineH_le hkDim (numS d) (by decide) n1
  have za4 : (lineH hkCap (numS c)).size ≤ 100200 := lineH_le hkCap (numS c) (by decide) n2
  have za5 : (lineH hkMet (kwS m)).size ≤ 100200 := lineH_le hkMet (kwS m) (by decide) (Nat.le_trans (kw_short _) (by decide))
  generalize lineH hkName nm = a1 at *
  generalize lineH hkType hkCvrp = a2 at *
  generalize lineH hkDim (numS d) = a3 at *
  generalize lineH hkCap (numS c) = a4 at *
  generalize lineH hkMet (kwS m) = a5 at *
  generalize numS d = nd at *
  generalize hkwm : kwS m = km at *
  generalize numS c = nc at *
  clear hkwm n1 n2
  have HP := Lib.hid HP
  have HB := fun w => Lib.hid (HdBox.new w nm 2 d c m 0 24)
  go_enter Tryz.func7, Tryz.ntmps7
  go_wp2_with (go_at_call 8; (with_reducible refine (HRM.out _ (TK.out _ (below_one_h _ _)) (TL.out _ (below_one_h _ _))).mono ?_); rintro e w1 ⟨rfl, hw1⟩; have H1 := Lib.hid ((HB w).out.next hw1); have B1 := Lib.hid (hd_below _ _ hw1); obtain ⟨l1, x0, x1, x2, x3, x4, x5⟩ := H1.out; clear hw1)
  refine wp_region_held_drew (S := (fun W => W.cell? ⟨w.heap.size, 0, none⟩ = some (.string nm) ∧ W.cell? ⟨w.heap.size, 1, none⟩ = some (.int .i64 2) ∧ W.cell? ⟨w.heap.size, 2, none⟩ = some (.int .i64 d))) (by kernel_rfl) (⟨x0, x1, x2⟩) (fun hHeld0 => ?_)
  clear hHeld0
  have H1 := Lib.hid H1.out.drew
  have B1 := Lib.hid (below_drew_h B1.out)
  refine wpAnyH_take (i := 0) (v := ?_) rfl (by kernel_rfl) (by kernel_rfl) (by kernel_rfl) (fun _ _ _ h => h) (Or.inl ⟨by kernel_rfl, ?_⟩) (⟨x0, x1, x2⟩) ?_
  rotate_left
  · (intro w0 hSw; (try dsimp only at hSw); obtain ⟨q0, q1, q2⟩ := hSw; go_simp; try with_reducible rfl)
  try dsimp only [List.getElem_toArray, List.getElem_cons_succ, List.getElem_cons_zero, Act.put]
  try simp only [List.setIfInBounds_toArray, List.set_cons_zero, List.set_cons_succ]
  refine wpAnyH_take (i := 1) (v := ?_) rfl (by kernel_rfl) (by kernel_rfl) (by kernel_rfl) (fun _ _ _ h => h) (Or.inl ⟨by kernel_rfl, ?_⟩) (⟨x0, x1, x2⟩) ?_
  rotate_left
  · (intro w0 hSw; (try dsimp only at hSw); obtain ⟨q0, q1, q2⟩ := hSw; go_simp; try with_reducible rfl)
  try dsimp only [List.getElem_toArray, List.getElem_cons_succ, List.getElem_cons_zero, Act.put]
  try simp only [List.setIfInBounds_toArray, List.set_cons_zero, List.set_cons_succ]
  refine wpAnyH_take (i := 3) (v := ?_) rfl (by kernel_rfl) (by kernel_rfl) (by kernel_rfl) (fun _ _ _ h => h) (Or.inl ⟨by kernel_rfl, ?_⟩) (⟨x0, x1, x2⟩) ?_
  rotate_left
  · (intro w0 hSw; (try dsimp only at hSw); obtain ⟨q0, q1, q2⟩ := hSw; go_simp; try with_reducible rfl)
  try dsimp only [List.getElem_toArray, List.getElem_cons_succ, List.getElem_cons_zero, Act.put]
  try simp only [List.setIfInBounds_toArray, List.set_cons_zero, List.set_cons_succ]
  refine wpAnyH_take (i := 4) (v := ?_) rfl (by kernel_rfl) (by kernel_rfl) (by kernel_rfl) (fun _ _ _ h => h) (Or.inl ⟨by kernel_rfl, ?_⟩) (⟨x0, x1, x2⟩) ?_
  rotate_left
  · (intro w0 hSw; (try dsimp only at hSw); obtain ⟨q0, q1, q2⟩ := hSw; go_simp; try with_reducible rfl)
  try dsimp only [List.getElem_toArray, List.getElem_cons_succ, List.getElem_cons_zero, Act.put]
  try simp only [List.setIfInBounds_toArray, List.set_cons_zero, List.set_cons_succ]
  refine wpAnyH_take (i := 8) (v := ?_) rfl (by kernel_rfl) (by kernel_rfl) (by kernel_rfl) (fun _ _ _ h => h) (Or.inl ⟨by kernel_rfl, ?_⟩) (⟨x0, x1, x2⟩) ?_
  rotate_left
  · (intro w0 hSw; (try dsimp only at hSw); obtain ⟨q0, q1, q2⟩ := hSw; go_simp; try with_reducible rfl)
  try dsimp only [List.getElem_toArray, List.getElem_cons_succ, List.getElem_cons_zero, Act.put]
  try simp only [List.setIfInBounds_toArray, List.set_cons_zero, List.set_cons_succ]
  refine wpAnyH_take (i := 9) (v := ?_) rfl (by kernel_rfl) (by kernel_rfl) (by kernel_rfl) (fun _ _ _ h => h) (Or.inl ⟨by kernel_rfl, ?_⟩) (⟨x0, x1, x2⟩) ?_
  rotate_left
  · (intro w0 hSw; (try dsimp only at hSw); obtain ⟨q0, q1, q2⟩ := hSw; go_simp; try with_reducible rfl)
  try dsimp only [List.getElem_toArray, List.getElem_cons_succ, List.getElem_cons_zero, Act.put]
  try simp only [List.setIfInBounds_toArray, List.set_cons_zero, List.set_cons_succ]
  refine wpAnyH_ready (rs := [2]) (by kernel_rfl) (by simp) (AllReadyH.cons rfl (fun KK hKK => ?_) AllReadyH.nil)
  go_simp
  go_at_call 18
  (with_reducible refine (L1 _).mono ?_)
  rintro e v2 ⟨rfl, hv2⟩
  subst hv2
  refine hKK.out _ _ (⟨x0, x1, x2⟩) (fun _ => ?_)
  clear hKK KK
  try dsimp only [List.getElem_toArray, List.getElem_cons_succ, List.getElem_cons_zero, Act.put]
  try simp only [List.setIfInBounds_toArray, List.set_cons_zero, List.set_cons_succ]
  refine wpAnyH_ready (rs := [5]) (by kernel_rfl) (by simp) (AllReadyH.cons rfl (fun KK hKK => ?_) AllReadyH.nil)
  go_simp
  go_at_call 19
  (with_reducible refine (K1 _).mono ?_)
  rintro e v5 ⟨rfl, hv5⟩
  subst hv5
  refine hKK.out _ _ (⟨x0, x1, x2⟩) (fun _ => ?_)
  clear hKK KK
  try dsimp only [List.getElem_toArray, List.getElem_cons_succ, List.getElem_cons_zero, Act.put]
  try simp only [List.setIfInBounds_toArray, List.set_cons_zero, List.set_cons_succ]
  refine wpAnyH_ready (rs := [6]) (by kernel_rfl) (by simp) (AllReadyH.cons rfl (fun KK hKK => ?_) AllReadyH.nil)
  go_simp
  go_at_call 18
  (with_reducible refine (L2 _).mono ?_)
  rintro e v6 ⟨rfl, hv6⟩
  subst hv6
  refine hKK.out _ _ (⟨x0, x1, x2⟩) (fun _ => ?_)
  clear hKK KK
  try dsimp only [List.getElem_toArray, List.getElem_cons_succ, List.getElem_cons_zero, Act.put]
  try simp only [List.setIfInBounds_toArray, List.set_cons_zero, List.set_cons_succ]
  refine wpAnyH_take (i := 7) (v := ?_) rfl (by kernel_rfl) (by kernel_rfl) (by kernel_rfl) (fun _ _ _ h => h) (Or.inl ⟨by kernel_rfl, ?_⟩) (⟨x0, x1, x2⟩) ?_
  rotate_left
  · (intro w0 hSw; (try dsimp only at hSw); obtain ⟨q0, q1, q2⟩ := hSw; go_simp; first | with_reducible rfl | (rw [if_neg (by omega)]))
  try dsimp only [List.getElem_toArray, List.getElem_cons_succ, List.getElem_cons_zero, Act.put]
  try simp only [List.setIfInBounds_toArray, List.set_cons_zero, List.set_cons_succ]
  refine wpAnyH_ready (rs := [10]) (by kernel_rfl) (by simp) (AllReadyH.cons rfl (fun KK hKK => ?_) AllReadyH.nil)
  go_simp
  go_at_call 20
  (with_reducible refine (I1 _ (TF.out _ B1.out)).mono ?_)
  rintro e w2 ⟨rfl, hw2⟩
  have H2 := Lib.hid (H1.out.next hw2)
  have B2 := Lib.hid (hstep B1.out hw2)
  refine hKK.out _ _ (⟨H2.out.c0, H2.out.c1, H2.out.c2⟩) (fun _ => ?_)
  clear hKK KK
  try dsimp only [List.getElem_toArray, List.getElem_cons_succ, List.getElem_cons_zero, Act.put]
  try simp only [List.setIfInBounds_toArray, List.set_cons_zero, List.set_cons_succ]
  clear hw2
  refine wpAnyH_ready (rs := [11]) (by kernel_rfl) (by simp) (AllReadyH.cons rfl (fun KK hKK => ?_) AllReadyH.nil)
  go_simp
  go_at_call 18
  (with_reducible refine (L3 _).mono ?_)
  rintro e v11 ⟨rfl, hv11⟩
  subst hv11
  refine hKK.out _ _ (⟨H2.out.c0, H2.out.c1, H2.out.c2⟩) (fun _ => ?_)
  clear hKK KK
  try dsimp only [List.getElem_toArray, List.getElem_cons_succ, List.getElem_cons_zero, Act.put]
  try simp only [List.setIfInBounds_toArray, List.set_cons_zero, List.set_cons_succ]
  refine wpAnyH_take (i := 12) (v := ?_) rfl (by kernel_rfl) (by kernel_rfl) (by kernel_rfl) (fun _ _ _ h => h) (Or.inl ⟨by kernel_rfl, ?_⟩) (⟨H2.out.c0, H2.out.c1, H2.out.c2⟩) ?_
  rotate_left
  · (intro w0 hSw; (try dsimp only at hSw); obtain ⟨q0, q1, q2⟩ := hSw; go_simp; first | with_reducible rfl | (rw [if_neg (by omega)]))
  try dsimp only [List.getElem_toArray, List.getElem_cons_succ, List.getElem_cons_zero, Act.put]
  try simp only [List.setIfInBounds_toArray, List.set_cons_zero, List.set_cons_succ]
  refine wpAnyH_take (i := 13) (v := ?_) rfl (by kernel_rfl) (by kernel_rfl) (by kernel_rfl) (fun _ _ _ h => h) (Or.inl ⟨by kernel_rfl, ?_⟩) (⟨H2.out.c0, H2.out.c1, H2.out.c2⟩) ?_
  rotate_left
  · (intro w0 hSw; (try dsimp only at hSw); obtain ⟨q0, q1, q2⟩ := hSw; go_simp; first | with_reducible rfl | (rw [if_neg (by omega)]))
  try dsimp only [List.getElem_toArray, List.getElem_cons_succ, List.getElem_cons_zero, Act.put]
  try simp only [List.setIfInBounds_toArray, List.set_cons_zero, List.set_cons_succ]
  refine wpAnyH_done (by kernel_rfl) ?_ _
  try dsimp only [List.getElem_toArray, List.getElem_cons_succ, List.getElem_cons_zero, Act.put]
  try simp only [List.setIfInBounds_toArray, List.set_cons_zero, List.set_cons_succ]
  obtain ⟨l2, y0, y1, y2, y3, y4, y5⟩ := H2.out
  have z12 : (a1 ++ a2 ++ a3).size ≤ 400000 := by simp only [ByteArray.size_append]; omega
  go_wp2_with (first | (go_at_call 21; (with_reducible refine (M1 _ (TK.out _ (by first | exact B4.out | exact B2.out))).mono ?_); rintro e v3 ⟨rfl, hv3⟩; subst hv3) | (go_at_call 18; (first | (with_reducible refine (L5 _).mono ?_) | (with_reducible refine (L4 _).mono ?_)); rintro e v4 ⟨rfl, hv4⟩; subst hv4) | (go_at_call 20; (with_reducible refine (I2 _ (TF.out _ B2.out)).mono ?_); rintro e w4 ⟨rfl, hw4⟩; have H4 := Lib.hid (H2.out.next hw4); have B4 := Lib.hid (hstep B2.out hw4); obtain ⟨l4, z0, z1, z2, z3, z4, z5⟩ := H4.out; clear hw4))
  all_goals first | (exfalso; simp only [ByteArray.size_append] at *; omega) | skip
  refine bodyPost_ret (v := .string (a1 ++ a2 ++ a3 ++ a4 ++ a5)) (by simp [results, Tryz.results7, go_sem]) rfl ⟨by rw [HP.out], B4.out⟩
set_option maxRecDepth 100000 in
set_option maxHeartbeats 8000000 in
theorem Tryz.hprint_21 (nm : ByteArray) (d c l : Int) (w : World) (hs : nm.size ≤ 100000) (hK : KeyTab w) (hL : LayTab w) (hF : FxTab w) (hm : mayH ⟨nm, 2, d, c, 0, l⟩ = true) (hd : 1 ≤ d ∧ d ≤ 400) (hc : 1 ≤ c ∧ c ≤ 100000000) :
    Calls Tryz.prog 7 #[hdV ⟨nm, 2, d, c, 0, l⟩] w fun e w' => e = .returned (.string (printE ⟨nm, 2, d, c, 0, l⟩)) ∧ Below w.heap.size w w' := by
  have RM := fun w hk hl => Tryz.hmay_calls ⟨nm, 2, d, c, 0, l⟩ w (by simpa using (by omega : nm.size ≤ 2000000)) hk hl
  rw [hm] at RM
  have HP : printE ⟨nm, 2, d, c, 0, l⟩ = lineH hkName nm ++ lineH hkType hkCvrp ++ lineH hkDim (numS d) ++ lineH hkCap (numS c) ++ lineH hkMet (kwS 0) ++ lineH hkLay (lkwS l) := by
    unfold printE kindS
    rw [hm]
    simp only [if_true]
    skip
  have TK := Lib.hid fun W (h : Below w.heap.size w W) => hK.below h
  have TL := Lib.hid fun W (h : Below w.heap.size w W) => hL.below h
  have TF := Lib.hid fun W (h : Below w.heap.size w W) => hF.below h
  clear hm hK hL hF
  unfold hdV at RM ⊢
  have HRM := Lib.hid RM
  clear RM
  have n1 : (numS d).size ≤ 100000 := by have := Lib.itoa_length_le d (by omega) (by omega); unfold numS; simp only [ByteArray.size, List.size_toArray]; omega
  have L1 : ∀ w, Calls Tryz.prog 18 #[.string ⟨#[78, 65, 77, 69]⟩, .string nm] w fun e w' => e = .returned (.string (lineH hkName nm)) ∧ w' = w := fun w => Tryz.hline_calls hkName nm w (by decide) hs
  have L2 : ∀ w, Calls Tryz.prog 18 #[.string ⟨#[84, 89, 80, 69]⟩, .string ⟨#[67, 86, 82, 80]⟩] w fun e w' => e = .returned (.string (lineH hkType hkCvrp)) ∧ w' = w := fun w => Tryz.hline_calls hkType hkCvrp w (by decide) (by decide)
  have L3 : ∀ w, Calls Tryz.prog 18 #[.string ⟨#[68, 73, 77, 69, 78, 83, 73, 79, 78]⟩, .string (numS d)] w fun e w' => e = .returned (.string (lineH hkDim (numS d))) ∧ w' = w := fun w => Tryz.hline_calls hkDim (numS d) w (by decide) n1
  have L5 : ∀ w, Calls Tryz.prog 18 #[.string ⟨#[69, 68, 71, 69, 95, 87, 69, 73, 71, 72, 84, 95, 84, 89, 80, 69]⟩, .string (kwS 0)] w fun e w' => e = .returned (.string (lineH hkMet (kwS 0))) ∧ w' = w := fun w => Tryz.hline_calls hkMet (kwS 0) w (by decide) (Nat.le_trans (kw_short _) (by decide))
  have K1 : ∀ w, Calls Tryz.prog 19 #[.int .i64 2] w fun e w' => e = .returned (.string ⟨#[67, 86, 82, 80]⟩) ∧ w' = w := fun w => Tryz.kwK_calls 2 w
  have I1 := fun w hF => Tryz.hnum_calls d (by omega) w hF
  have M1 := fun w hK => Tryz.Keyword_calls 0 w hK
  have n2 : (numS c).size ≤ 100000 := by have := Lib.itoa_length_le c (by omega) (by omega); unfold numS; simp only [ByteArray.size, List.size_toArray]; omega
  have L4 : ∀ w, Calls Tryz.prog 18 #[.string ⟨#[67, 65, 80, 65, 67, 73, 84, 89]⟩, .string (numS c)] w fun e w' => e = .returned (.string (lineH hkCap (numS c))) ∧ w' = w := fun w => Tryz.hline_calls hkCap (numS c) w (by decide) n2
  have I2 := fun w hF => Tryz.hnum_calls c (by omega) w hF
  have L6 : ∀ w, Calls Tryz.prog 18 #[.string ⟨#[69, 68, 71, 69, 95, 87, 69, 73, 71, 72, 84, 95, 70, 79, 82, 77, 65, 84]⟩, .string (lkwS l)] w fun e w' => e = .returned (.string (lineH hkLay (lkwS l))) ∧ w' = w := fun w => Tryz.hline_calls hkLay (lkwS l) w (by decide) (Nat.le_trans (lkw_short _) (by decide))
  have X1 := fun w hL => Tryz.LKeyword_calls l w hL
  have za1 : (lineH hkName nm).size ≤ 100200 := lineH_le hkName nm (by decide) hs
  have za2 : (lineH hkType hkCvrp).size ≤ 100200 := lineH_le hkType hkCvrp (by decide) (by decide)
  have za3 : (lineH hkDim (numS d)).size ≤ 100200 := lineH_le hkDim (numS d) (by decide) n1
  have za4 : (lineH hkCap (numS c)).size ≤ 100200 := lineH_le hkCap (numS c) (by decide) n2
  have za5 : (lineH hkMet (kwS 0)).size ≤ 100200 := lineH_le hkMet (kwS 0) (by decide) (Nat.le_trans (kw_short _) (by decide))
  have za6 : (lineH hkLay (lkwS l)).size ≤ 100200 := lineH_le hkLay (lkwS l) (by decide) (Nat.le_trans (lkw_short _) (by decide))
  generalize lineH hkName nm = a1 at *
  generalize lineH hkType hkCvrp = a2 at *
  generalize lineH hkDim (numS d) = a3 at *
  generalize lineH hkCap (numS c) = a4 at *
  generalize lineH hkMet (kwS 0) = a5 at *
  generalize lineH hkLay (lkwS l) = a6 at *
  generalize numS d = nd at *
  generalize hkwm : kwS 0 = km at *
  generalize numS c = nc at *
  generalize lkwS l = kl at *
  clear hkwm n1 n2
  have HP := Lib.hid HP
  have HB := fun w => Lib.hid (HdBox.new w nm 2 d c 0 l 24)
  go_enter Tryz.func7, Tryz.ntmps7
  go_wp2_with (go_at_call 8; (with_reducible refine (HRM.out _ (TK.out _ (below_one_h _ _)) (TL.out _ (below_one_h _ _))).mono ?_); rintro e w1 ⟨rfl, hw1⟩; have H1 := Lib.hid ((HB w).out.next hw1); have B1 := Lib.hid (hd_below _ _ hw1); obtain ⟨l1, x0, x1, x2, x3, x4, x5⟩ := H1.out; clear hw1)
  refine wp_region_held_drew (S := (fun W => W.cell? ⟨w.heap.size, 0, none⟩ = some (.string nm) ∧ W.cell? ⟨w.heap.size, 1, none⟩ = some (.int .i64 2) ∧ W.cell? ⟨w.heap.size, 2, none⟩ = some (.int .i64 d))) (by kernel_rfl) (⟨x0, x1, x2⟩) (fun hHeld0 => ?_)
  clear hHeld0
  have H1 := Lib.hid H1.out.drew
  have B1 := Lib.hid (below_drew_h B1.out)
  refine wpAnyH_take (i := 0) (v := ?_) rfl (by kernel_rfl) (by kernel_rfl) (by kernel_rfl) (fun _ _ _ h => h) (Or.inl ⟨by kernel_rfl, ?_⟩) (⟨x0, x1, x2⟩) ?_
  rotate_left
  · (intro w0 hSw; (try dsimp only at hSw); obtain ⟨q0, q1, q2⟩ := hSw; go_simp; try with_reducible rfl)
  try dsimp only [List.getElem_toArray, List.getElem_cons_succ, List.getElem_cons_zero, Act.put]
  try simp only [List.setIfInBounds_toArray, List.set_cons_zero, List.set_cons_succ]
  refine wpAnyH_take (i := 1) (v := ?_) rfl (by kernel_rfl) (by kernel_rfl) (by kernel_rfl) (fun _ _ _ h => h) (Or.inl ⟨by kernel_rfl, ?_⟩) (⟨x0, x1, x2⟩) ?_
  rotate_left
  · (intro w0 hSw; (try dsimp only at hSw); obtain ⟨q0, q1, q2⟩ := hSw; go_simp; try with_reducible rfl)
  try dsimp only [List.getElem_toArray, List.getElem_cons_succ, List.getElem_cons_zero, Act.put]
  try simp only [List.setIfInBounds_toArray, List.set_cons_zero, List.set_cons_succ]
  refine wpAnyH_take (i := 3) (v := ?_) rfl (by kernel_rfl) (by kernel_rfl) (by kernel_rfl) (fun _ _ _ h => h) (Or.inl ⟨by kernel_rfl, ?_⟩) (⟨x0, x1, x2⟩) ?_
  rotate_left
  · (intro w0 hSw; (try dsimp only at hSw); obtain ⟨q0, q1, q2⟩ := hSw; go_simp; try with_reducible rfl)
  try dsimp only [List.getElem_toArray, List.getElem_cons_succ, List.getElem_cons_zero, Act.put]
  try simp only [List.setIfInBounds_toArray, List.set_cons_zero, List.set_cons_succ]
  refine wpAnyH_take (i := 4) (v := ?_) rfl (by kernel_rfl) (by kernel_rfl) (by kernel_rfl) (fun _ _ _ h => h) (Or.inl ⟨by kernel_rfl, ?_⟩) (⟨x0, x1, x2⟩) ?_
  rotate_left
  · (intro w0 hSw; (try dsimp only at hSw); obtain ⟨q0, q1, q2⟩ := hSw; go_simp; try with_reducible rfl)
  try dsimp only [List.getElem_toArray, List.getElem_cons_succ, List.getElem_cons_zero, Act.put]
  try simp only [List.setIfInBounds_toArray, List.set_cons_zero, List.set_cons_succ]
  refine wpAnyH_take (i := 8) (v := ?_) rfl (by kernel_rfl) (by kernel_rfl) (by kernel_rfl) (fun _ _ _ h => h) (Or.inl ⟨by kernel_rfl, ?_⟩) (⟨x0, x1, x2⟩) ?_
  rotate_left
  · (intro w0 hSw; (try dsimp only at hSw); obtain ⟨q0, q1, q2⟩ := hSw; go_simp; try with_reducible rfl)
  try dsimp only [List.getElem_toArray, List.getElem_cons_succ, List.getElem_cons_zero, Act.put]
  try simp only [List.setIfInBounds_toArray, List.set_cons_zero, List.set_cons_succ]
  refine wpAnyH_take (i := 9) (v := ?_) rfl (by kernel_rfl) (by kernel_rfl) (by kernel_rfl) (fun _ _ _ h => h) (Or.inl ⟨by kernel_rfl, ?_⟩) (⟨x0, x1, x2⟩) ?_
  rotate_left
  · (intro w0 hSw; (try dsimp only at hSw); obtain ⟨q0, q1, q2⟩ := hSw; go_simp; try with_reducible rfl)
  try dsimp only [List.getElem_toArray, List.getElem_cons_succ, List.getElem_cons_zero, Act.put]
  try simp only [List.setIfInBounds_toArray, List.set_cons_zero, List.set_cons_succ]
  refine wpAnyH_ready (rs := [2]) (by kernel_rfl) (by simp) (AllReadyH.cons rfl (fun KK hKK => ?_) AllReadyH.nil)
  go_simp
  go_at_call 18
  (with_reducible refine (L1 _).mono ?_)
  rintro e v2 ⟨rfl, hv2⟩
  subst hv2
  refine hKK.out _ _ (⟨x0, x1, x2⟩) (fun _ => ?_)
  clear hKK KK
  try dsimp only [List.getElem_toArray, List.getElem_cons_succ, List.getElem_cons_zero, Act.put]
  try simp only [List.setIfInBounds_toArray, List.set_cons_zero, List.set_cons_succ]
  refine wpAnyH_ready (rs := [5]) (by kernel_rfl) (by simp) (AllReadyH.cons rfl (fun KK hKK => ?_) AllReadyH.nil)
  go_simp
  go_at_call 19
  (with_reducible refine (K1 _).mono ?_)
  rintro e v5 ⟨rfl, hv5⟩
  subst hv5
  refine hKK.out _ _ (⟨x0, x1, x2⟩) (fun _ => ?_)
  clear hKK KK
  try dsimp only [List.getElem_toArray, List.getElem_cons_succ, List.getElem_cons_zero, Act.put]
  try simp only [List.setIfInBounds_toArray, List.set_cons_zero, List.set_cons_succ]
  refine wpAnyH_ready (rs := [6]) (by kernel_rfl) (by simp) (AllReadyH.cons rfl (fun KK hKK => ?_) AllReadyH.nil)
  go_simp
  go_at_call 18
  (with_reducible refine (L2 _).mono ?_)
  rintro e v6 ⟨rfl, hv6⟩
  subst hv6
  refine hKK.out _ _ (⟨x0, x1, x2⟩) (fun _ => ?_)
  clear hKK KK
  try dsimp only [List.getElem_toArray, List.getElem_cons_succ, List.getElem_cons_zero, Act.put]
  try simp only [List.setIfInBounds_toArray, List.set_cons_zero, List.set_cons_succ]
  refine wpAnyH_take (i := 7) (v := ?_) rfl (by kernel_rfl) (by kernel_rfl) (by kernel_rfl) (fun _ _ _ h => h) (Or.inl ⟨by kernel_rfl, ?_⟩) (⟨x0, x1, x2⟩) ?_
  rotate_left
  · (intro w0 hSw; (try dsimp only at hSw); obtain ⟨q0, q1, q2⟩ := hSw; go_simp; first | with_reducible rfl | (rw [if_neg (by omega)]))
  try dsimp only [List.getElem_toArray, List.getElem_cons_succ, List.getElem_cons_zero, Act.put]
  try simp only [List.setIfInBounds_toArray, List.set_cons_zero, List.set_cons_succ]
  refine wpAnyH_ready (rs := [10]) (by kernel_rfl) (by simp) (AllReadyH.cons rfl (fun KK hKK => ?_) AllReadyH.nil)
  go_simp
  go_at_call 20
  (with_reducible refine (I1 _ (TF.out _ B1.out)).mono ?_)
  rintro e w2 ⟨rfl, hw2⟩
  have H2 := Lib.hid (H1.out.next hw2)
  have B2 := Lib.hid (hstep B1.out hw2)
  refine hKK.out _ _ (⟨H2.out.c0, H2.out.c1, H2.out.c2⟩) (fun _ => ?_)
  clear hKK KK
  try dsimp only [List.getElem_toArray, List.getElem_cons_succ, List.getElem_cons_zero, Act.put]
  try simp only [List.setIfInBounds_toArray, List.set_cons_zero, List.set_cons_succ]
  clear hw2
  refine wpAnyH_ready (rs := [11]) (by kernel_rfl) (by simp) (AllReadyH.cons rfl (fun KK hKK => ?_) AllReadyH.nil)
  go_simp
  go_at_call 18
  (with_reducible refine (L3 _).mono ?_)
  rintro e v11 ⟨rfl, hv11⟩
  subst hv11
  refine hKK.out _ _ (⟨H2.out.c0, H2.out.c1, H2.out.c2⟩) (fun _ => ?_)
  clear hKK KK
  try dsimp only [List.getElem_toArray, List.getElem_cons_succ, List.getElem_cons_zero, Act.put]
  try simp only [List.setIfInBounds_toArray, List.set_cons_zero, List.set_cons_succ]
  refine wpAnyH_take (i := 12) (v := ?_) rfl (by kernel_rfl) (by kernel_rfl) (by kernel_rfl) (fun _ _ _ h => h) (Or.inl ⟨by kernel_rfl, ?_⟩) (⟨H2.out.c0, H2.out.c1, H2.out.c2⟩) ?_
  rotate_left
  · (intro w0 hSw; (try dsimp only at hSw); obtain ⟨q0, q1, q2⟩ := hSw; go_simp; first | with_reducible rfl | (rw [if_neg (by omega)]))
  try dsimp only [List.getElem_toArray, List.getElem_cons_succ, List.getElem_cons_zero, Act.put]
  try simp only [List.setIfInBounds_toArray, List.set_cons_zero, List.set_cons_succ]
  refine wpAnyH_take (i := 13) (v := ?_) rfl (by kernel_rfl) (by kernel_rfl) (by kernel_rfl) (fun _ _ _ h => h) (Or.inl ⟨by kernel_rfl, ?_⟩) (⟨H2.out.c0, H2.out.c1, H2.out.c2⟩) ?_
  rotate_left
  · (intro w0 hSw; (try dsimp only at hSw); obtain ⟨q0, q1, q2⟩ := hSw; go_simp; first | with_reducible rfl | (rw [if_neg (by omega)]))
  try dsimp only [List.getElem_toArray, List.getElem_cons_succ, List.getElem_cons_zero, Act.put]
  try simp only [List.setIfInBounds_toArray, List.set_cons_zero, List.set_cons_succ]
  refine wpAnyH_done (by kernel_rfl) ?_ _
  try dsimp only [List.getElem_toArray, List.getElem_cons_succ, List.getElem_cons_zero, Act.put]
  try simp only [List.setIfInBounds_toArray, List.set_cons_zero, List.set_cons_succ]
  obtain ⟨l2, y0, y1, y2, y3, y4, y5⟩ := H2.out
  have z12 : (a1 ++ a2 ++ a3).size ≤ 400000 := by simp only [ByteArray.size_append]; omega
  go_wp2_with (first | (go_at_call 21; (with_reducible refine (M1 _ (TK.out _ (by first | exact B4.out | exact B2.out))).mono ?_); rintro e v3 ⟨rfl, hv3⟩; subst hv3) | (go_at_call 18; (first | (with_reducible refine (L5 _).mono ?_) | (with_reducible refine (L4 _).mono ?_) | (with_reducible refine (L6 _).mono ?_)); rintro e v4 ⟨rfl, hv4⟩; subst hv4) | (go_at_call 20; (with_reducible refine (I2 _ (TF.out _ B2.out)).mono ?_); rintro e w4 ⟨rfl, hw4⟩; have H4 := Lib.hid (H2.out.next hw4); have B4 := Lib.hid (hstep B2.out hw4); obtain ⟨l4, z0, z1, z2, z3, z4, z5⟩ := H4.out; clear hw4) | (go_at_call 22; (with_reducible refine (X1 _ (TL.out _ (by first | exact B4.out | exact B2.out))).mono ?_); rintro e v5 ⟨rfl, hv5⟩; subst hv5))
  all_goals first | (exfalso; simp only [ByteArray.size_append] at *; omega) | skip
  refine bodyPost_ret (v := .string (a1 ++ a2 ++ a3 ++ a4 ++ a5 ++ a6)) (by simp [results, Tryz.results7, go_sem]) rfl ⟨by rw [HP.out], B4.out⟩
theorem Tryz.hprint_calls (h : Hd) (w : World) (hs : h.name.size ≤ 100000) (hK : KeyTab w) (hL : LayTab w) (hF : FxTab w) :
    Calls Tryz.prog 7 #[hdV h] w fun e w' => e = .returned (.string (printE h)) ∧ Below w.heap.size w w' := by
  cases hm : mayH h with
  | false => exact Tryz.hprint_no h w (by omega) hK hL hm
  | true =>
    obtain ⟨nm, k, d, c, m, l⟩ := h
    have hx := hm
    unfold mayH at hx
    simp only [Bool.and_eq_true, decide_eq_true_eq] at hx
    obtain ⟨⟨⟨⟨_, hd⟩, _⟩, hl⟩, hk⟩ := hx
    rcases hk with ⟨rfl, rfl⟩ | ⟨rfl, hc⟩ <;> rcases hl with ⟨rfl, _⟩ | ⟨h0, rfl⟩
    · exact Tryz.hprint_11 nm d l w hs hK hL hF hm hd
    · exact Tryz.hprint_10 nm d m w hs hK hL hF hm h0 hd
    · exact Tryz.hprint_21 nm d c l w hs hK hL hF hm hd hc
    · exact Tryz.hprint_20 nm d c m w hs hK hL hF hm h0 hd hc
#print axioms Tryz.hprint_calls
end Go.Proofs
