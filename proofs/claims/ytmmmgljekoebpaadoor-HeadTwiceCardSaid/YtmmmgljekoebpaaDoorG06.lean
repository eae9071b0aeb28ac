/- The document's own Print of layer 14. Conditions: a name is no longer than two million bytes. -/
import Derived.Test.YtmmmgljekoebpaaDoorG05
import Derived.Test.YtmmmgljekoebpaaDoorG04
import Derived.Test.YtmmmgljekoebpaaDoorG03
namespace Go.Proofs
open Go.RowKit Go.Shelf Go.Hdr Go.Fx Go.Wds Go.Metric Go.Layout
attribute [local go_sem] Oper.semAt_some
set_option maxRecDepth 100000 in
set_option maxHeartbeats 8000000 in
theorem Tryd.rprint_no (h : Hd) (w : World) (hs : h.name.size ≤ 2000000) (hm : mayH h = false) :
    Calls Tryd.prog 13 #[hdV h] w fun e w' => e = .returned (.string (printE h)) ∧ Below w.heap.size w w' := by
  have e : printE h = ⟨#[]⟩ := by unfold printE; rw [hm]; rfl
  rw [e]
  clear e
  have RM := fun w => Tryd.rhmay_calls h w (Nat.le_trans hs (by decide))
  rw [hm] at RM
  clear hm
  obtain ⟨nm, k, d, c, m, l⟩ := h
  unfold hdV at RM ⊢
  go_enter Tryd.func13, Tryd.ntmps13
  go_wp2_with (go_at_call 11; (with_reducible refine (RM _).mono ?_); rintro e w1 ⟨rfl, hw1⟩)
  go_ret
  exact ⟨rfl, hd_below _ _ hw1⟩
theorem htext10 (nm q kw : ByteArray) : (⟨#[78, 65, 77, 69, 32, 58, 32]⟩ : ByteArray) ++ nm ++ ⟨#[10, 84, 89, 80, 69, 32, 58, 32]⟩ ++ ⟨#[84, 83, 80]⟩ ++ ⟨#[10, 68, 73, 77, 69, 78, 83, 73, 79, 78, 32, 58, 32]⟩ ++ q ++ ⟨#[10]⟩ ++ ⟨#[69, 68, 71, 69, 95, 87, 69, 73, 71, 72, 84, 95, 84, 89, 80, 69, 32, 58, 32]⟩ ++ kw ++ ⟨#[10]⟩ = lineH hkName nm ++ lineH hkType (kindS 1) ++ lineH hkDim q ++ ⟨#[]⟩ ++ lineH hkMet kw ++ ⟨#[]⟩ := by
  apply ByteArray.ext
  apply Array.toList_inj.1
  simp [lineH, hkName, hkType, hkDim, hkMet, kindS, hkTsp, Hdr.col, Hdr.lf, ByteArray.data_append]
set_option maxRecDepth 100000 in
set_option maxHeartbeats 8000000 in
theorem Tryd.rprint_10 (nm : ByteArray) (d m : Int) (w : World) (hs : nm.size ≤ 2000000) (hm : mayH ⟨nm, 1, d, 0, m, 0⟩ = true) (h0 : m ≠ 0) (hd : 1 ≤ d ∧ d ≤ 400) :
    Calls Tryd.prog 13 #[hdV ⟨nm, 1, d, 0, m, 0⟩] w fun e w' => e = .returned (.string (printE ⟨nm, 1, d, 0, m, 0⟩)) ∧ Below w.heap.size w w' := by
  have RM := fun w => Tryd.rhmay_calls ⟨nm, 1, d, 0, m, 0⟩ w (Nat.le_trans hs (by decide))
  rw [hm] at RM
  have RD := fun w => Tryd.Num_any d (by omega) (by omega) w
  have RK := fun w => Tryd.RKeyword_calls m w
  have hlen := Lib.itoa_length_le d (by omega) (by omega)
  have hkw := kw_short m
  have HP := Lib.hid (show printE ⟨nm, 1, d, 0, m, 0⟩ = lineH hkName nm ++ lineH hkType (kindS 1) ++ lineH hkDim (numS d) ++ ⟨#[]⟩ ++ lineH hkMet (kwS m) ++ ⟨#[]⟩ by unfold printE; rw [hm]; simp only [if_true, if_neg h0]; rfl)
  clear hm
  have HB := fun w => Lib.hid (HdBox.new w nm 1 d 0 m 0 27)
  unfold hdV at RM ⊢
  go_enter Tryd.func13, Tryd.ntmps13
  go_wp2_with (go_at_call 11; (with_reducible refine (RM _).mono ?_); rintro e w1 ⟨rfl, hw1⟩; have H1 := Lib.hid ((HB w).out.next hw1); have B1 := Lib.hid (hd_below _ _ hw1); obtain ⟨l1, x0, x1, x2, x3, x4, x5⟩ := H1.out; clear hw1)
  refine wp_region_held_drew (S := (fun W => W.cell? ⟨w.heap.size, 0, none⟩ = some (.string nm) ∧ W.cell? ⟨w.heap.size, 2, none⟩ = some (.int .i64 d))) (by kernel_rfl) (⟨x0, x2⟩) (fun hHeld0 => ?_)
  clear hHeld0
  refine wpAnyH_take (i := 0) (v := ?_) rfl (by kernel_rfl) (by kernel_rfl) (by kernel_rfl) (fun _ _ _ h => h) (Or.inl ⟨by kernel_rfl, ?_⟩) (⟨x0, x2⟩) ?_
  rotate_left
  · (intro w0 hSw; (try dsimp only at hSw); obtain ⟨q0, q2⟩ := hSw; go_simp; first | with_reducible rfl | (rw [if_neg (by omega)]))
  try dsimp only [List.getElem_toArray, List.getElem_cons_succ, List.getElem_cons_zero, Act.put]
  try simp only [List.setIfInBounds_toArray, List.set_cons_zero, List.set_cons_succ]
  refine wpAnyH_take (i := 1) (v := ?_) rfl (by kernel_rfl) (by kernel_rfl) (by kernel_rfl) (fun _ _ _ h => h) (Or.inl ⟨by kernel_rfl, ?_⟩) (⟨x0, x2⟩) ?_
  rotate_left
  · (intro w0 hSw; (try dsimp only at hSw); obtain ⟨q0, q2⟩ := hSw; go_simp; first | with_reducible rfl | (rw [if_neg (by omega)]))
  try dsimp only [List.getElem_toArray, List.getElem_cons_succ, List.getElem_cons_zero, Act.put]
  try simp only [List.setIfInBounds_toArray, List.set_cons_zero, List.set_cons_succ]
  refine wpAnyH_take (i := 2) (v := ?_) rfl (by kernel_rfl) (by kernel_rfl) (by kernel_rfl) (fun _ _ _ h => h) (Or.inl ⟨by kernel_rfl, ?_⟩) (⟨x0, x2⟩) ?_
  rotate_left
  · (intro w0 hSw; (try dsimp only at hSw); obtain ⟨q0, q2⟩ := hSw; go_simp; first | with_reducible rfl | (rw [if_neg (by omega)]))
  try dsimp only [List.getElem_toArray, List.getElem_cons_succ, List.getElem_cons_zero, Act.put]
  try simp only [List.setIfInBounds_toArray, List.set_cons_zero, List.set_cons_succ]
  refine wpAnyH_take (i := 3) (v := ?_) rfl (by kernel_rfl) (by kernel_rfl) (by kernel_rfl) (fun _ _ _ h => h) (Or.inl ⟨by kernel_rfl, ?_⟩) (⟨x0, x2⟩) ?_
  rotate_left
  · (intro w0 hSw; (try dsimp only at hSw); obtain ⟨q0, q2⟩ := hSw; go_simp; first | with_reducible rfl | (rw [if_neg (by omega)]))
  try dsimp only [List.getElem_toArray, List.getElem_cons_succ, List.getElem_cons_zero, Act.put]
  try simp only [List.setIfInBounds_toArray, List.set_cons_zero, List.set_cons_succ]
  refine wpAnyH_take (i := 4) (v := ?_) rfl (by kernel_rfl) (by kernel_rfl) (by kernel_rfl) (fun _ _ _ h => h) (Or.inl ⟨by kernel_rfl, ?_⟩) (⟨x0, x2⟩) ?_
  rotate_left
  · (intro w0 hSw; (try dsimp only at hSw); obtain ⟨q0, q2⟩ := hSw; go_simp; first | with_reducible rfl | (rw [if_neg (by omega)]))
  try dsimp only [List.getElem_toArray, List.getElem_cons_succ, List.getElem_cons_zero, Act.put]
  try simp only [List.setIfInBounds_toArray, List.set_cons_zero, List.set_cons_succ]
  refine wpAnyH_take (i := 5) (v := ?_) rfl (by kernel_rfl) (by kernel_rfl) (by kernel_rfl) (fun _ _ _ h => h) (Or.inl ⟨by kernel_rfl, ?_⟩) (⟨x0, x2⟩) ?_
  rotate_left
  · (intro w0 hSw; (try dsimp only at hSw); obtain ⟨q0, q2⟩ := hSw; go_simp; first | with_reducible rfl | (rw [if_neg (by omega)]))
  try dsimp only [List.getElem_toArray, List.getElem_cons_succ, List.getElem_cons_zero, Act.put]
  try simp only [List.setIfInBounds_toArray, List.set_cons_zero, List.set_cons_succ]
  refine wpAnyH_take (i := 6) (v := ?_) rfl (by kernel_rfl) (by kernel_rfl) (by kernel_rfl) (fun _ _ _ h => h) (Or.inl ⟨by kernel_rfl, ?_⟩) (⟨x0, x2⟩) ?_
  rotate_left
  · (intro w0 hSw; (try dsimp only at hSw); obtain ⟨q0, q2⟩ := hSw; go_simp; first | with_reducible rfl | (rw [if_neg (by omega)]))
  try dsimp only [List.getElem_toArray, List.getElem_cons_succ, List.getElem_cons_zero, Act.put]
  try simp only [List.setIfInBounds_toArray, List.set_cons_zero, List.set_cons_succ]
  refine wpAnyH_take (i := 7) (v := ?_) rfl (by kernel_rfl) (by kernel_rfl) (by kernel_rfl) (fun _ _ _ h => h) (Or.inl ⟨by kernel_rfl, ?_⟩) (⟨x0, x2⟩) ?_
  rotate_left
  · (intro w0 hSw; (try dsimp only at hSw); obtain ⟨q0, q2⟩ := hSw; go_simp; first | with_reducible rfl | (rw [if_neg (by omega)]))
  try dsimp only [List.getElem_toArray, List.getElem_cons_succ, List.getElem_cons_zero, Act.put]
  try simp only [List.setIfInBounds_toArray, List.set_cons_zero, List.set_cons_succ]
  refine wpAnyH_take (i := 8) (v := ?_) rfl (by kernel_rfl) (by kernel_rfl) (by kernel_rfl) (fun _ _ _ h => h) (Or.inl ⟨by kernel_rfl, ?_⟩) (⟨x0, x2⟩) ?_
  rotate_left
  · (intro w0 hSw; (try dsimp only at hSw); obtain ⟨q0, q2⟩ := hSw; go_simp; first | with_reducible rfl | (rw [if_neg (by omega)]))
  try dsimp only [List.getElem_toArray, List.getElem_cons_succ, List.getElem_cons_zero, Act.put]
  try simp only [List.setIfInBounds_toArray, List.set_cons_zero, List.set_cons_succ]
  refine wpAnyH_ready (rs := [9]) (by kernel_rfl) (by simp) (AllReadyH.cons rfl (fun KK hKK => ?_) AllReadyH.nil)
  go_simp
  go_at_call 27
  (with_reducible refine (RD _).mono ?_)
  rintro e w2 ⟨rfl, hw2⟩
  have H2 := Lib.hid (H1.out.drew.next hw2)
  have B2 := Lib.hid (B1.out.trans ((below_drew_hd w1 hw2).mono B1.out.size))
  refine hKK.out _ _ (⟨H2.out.c0, H2.out.c2⟩) (fun _ => ?_)
  clear hKK KK
  try dsimp only [List.getElem_toArray, List.getElem_cons_succ, List.getElem_cons_zero, Act.put]
  try simp only [List.setIfInBounds_toArray, List.set_cons_zero, List.set_cons_succ]
  clear hw2
  refine wpAnyH_take (i := 10) (v := ?_) rfl (by kernel_rfl) (by kernel_rfl) (by kernel_rfl) (fun _ _ _ h => h) (Or.inl ⟨by kernel_rfl, ?_⟩) (⟨H2.out.c0, H2.out.c2⟩) ?_
  rotate_left
  · (intro w0 hSw; (try dsimp only at hSw); obtain ⟨q0, q2⟩ := hSw; go_simp; first | with_reducible rfl | (rw [if_neg (by omega)]))
  try dsimp only [List.getElem_toArray, List.getElem_cons_succ, List.getElem_cons_zero, Act.put]
  try simp only [List.setIfInBounds_toArray, List.set_cons_zero, List.set_cons_succ]
  refine wpAnyH_take (i := 11) (v := ?_) rfl (by kernel_rfl) (by kernel_rfl) (by kernel_rfl) (fun _ _ _ h => h) (Or.inl ⟨by kernel_rfl, ?_⟩) (⟨H2.out.c0, H2.out.c2⟩) ?_
  rotate_left
  · (intro w0 hSw; (try dsimp only at hSw); obtain ⟨q0, q2⟩ := hSw; go_simp; first | with_reducible rfl | (rw [if_neg (by omega)]))
  try dsimp only [List.getElem_toArray, List.getElem_cons_succ, List.getElem_cons_zero, Act.put]
  try simp only [List.setIfInBounds_toArray, List.set_cons_zero, List.set_cons_succ]
  refine wpAnyH_take (i := 12) (v := ?_) rfl (by kernel_rfl) (by kernel_rfl) (by kernel_rfl) (fun _ _ _ h => h) (Or.inl ⟨by kernel_rfl, ?_⟩) (⟨H2.out.c0, H2.out.c2⟩) ?_
  rotate_left
  · (intro w0 hSw; (try dsimp only at hSw); obtain ⟨q0, q2⟩ := hSw; go_simp; first | with_reducible rfl | (rw [if_neg (by omega)]))
  try dsimp only [List.getElem_toArray, List.getElem_cons_succ, List.getElem_cons_zero, Act.put]
  try simp only [List.setIfInBounds_toArray, List.set_cons_zero, List.set_cons_succ]
  refine wpAnyH_done (by kernel_rfl) ?_ _
  try dsimp only [List.getElem_toArray, List.getElem_cons_succ, List.getElem_cons_zero, Act.put]
  try simp only [List.setIfInBounds_toArray, List.set_cons_zero, List.set_cons_succ]
  obtain ⟨l2, y0, y1, y2, y3, y4, y5⟩ := H2.out
  go_wp2_with (first | (go_at_call 28; (with_reducible refine (RK _).mono ?_); rintro e w3 ⟨rfl, hw3⟩; subst hw3))
  all_goals first | (exfalso; omega) | skip
  refine bodyPost_ret (v := .string ((⟨#[78, 65, 77, 69, 32, 58, 32]⟩ : ByteArray) ++ nm ++ ⟨#[10, 84, 89, 80, 69, 32, 58, 32]⟩ ++ ⟨#[84, 83, 80]⟩ ++ ⟨#[10, 68, 73, 77, 69, 78, 83, 73, 79, 78, 32, 58, 32]⟩ ++ ⟨(Lib.itoa d).toArray⟩ ++ ⟨#[10]⟩ ++ ⟨#[69, 68, 71, 69, 95, 87, 69, 73, 71, 72, 84, 95, 84, 89, 80, 69, 32, 58, 32]⟩ ++ (kwS m) ++ ⟨#[10]⟩)) (by simp [results, Tryd.results13, go_sem]) rfl (hd_told (by rw [HP.out]; exact congrArg Value.string (htext10 nm ⟨(Lib.itoa d).toArray⟩ (kwS m))) B2.out)
theorem htext11 (nm q kw lw : ByteArray) : (⟨#[78, 65, 77, 69, 32, 58, 32]⟩ : ByteArray) ++ nm ++ ⟨#[10, 84, 89, 80, 69, 32, 58, 32]⟩ ++ ⟨#[84, 83, 80]⟩ ++ ⟨#[10, 68, 73, 77, 69, 78, 83, 73, 79, 78, 32, 58, 32]⟩ ++ q ++ ⟨#[10]⟩ ++ ⟨#[69, 68, 71, 69, 95, 87, 69, 73, 71, 72, 84, 95, 84, 89, 80, 69, 32, 58, 32]⟩ ++ kw ++ ⟨#[10]⟩ ++ ⟨#[69, 68, 71, 69, 95, 87, 69, 73, 71, 72, 84, 95, 70, 79, 82, 77, 65, 84, 32, 58, 32]⟩ ++ lw ++ ⟨#[10]⟩ = lineH hkName nm ++ lineH hkType (kindS 1) ++ lineH hkDim q ++ ⟨#[]⟩ ++ lineH hkMet kw ++ lineH hkLay lw := by
  apply ByteArray.ext
  apply Array.toList_inj.1
  simp [lineH, hkName, hkType, hkDim, hkMet, hkLay, kindS, hkTsp, Hdr.col, Hdr.lf, ByteArray.data_append]
set_option maxRecDepth 100000 in
set_option maxHeartbeats 8000000 in
theorem Tryd.rprint_11 (nm : ByteArray) (d l : Int) (w : World) (hs : nm.size ≤ 2000000) (hm : mayH ⟨nm, 1, d, 0, 0, l⟩ = true) (hd : 1 ≤ d ∧ d ≤ 400) :
    Calls Tryd.prog 13 #[hdV ⟨nm, 1, d, 0, 0, l⟩] w fun e w' => e = .returned (.string (printE ⟨nm, 1, d, 0, 0, l⟩)) ∧ Below w.heap.size w w' := by
  have RM := fun w => Tryd.rhmay_calls ⟨nm, 1, d, 0, 0, l⟩ w (Nat.le_trans hs (by decide))
  rw [hm] at RM
  have RD := fun w => Tryd.Num_any d (by omega) (by omega) w
  have RK := fun w => Tryd.RKeyword_calls 0 w
  have hlen := Lib.itoa_length_le d (by omega) (by omega)
  have hkw := kw_short 0
  have RL := fun w => Tryd.RLKeyword_calls l w
  have hlkw := lkw_short l
  have HP := Lib.hid (show printE ⟨nm, 1, d, 0, 0, l⟩ = lineH hkName nm ++ lineH hkType (kindS 1) ++ lineH hkDim (numS d) ++ ⟨#[]⟩ ++ lineH hkMet (kwS 0) ++ lineH hkLay (lkwS l) by unfold printE; rw [hm]; simp only [if_true]; rfl)
  clear hm
  have HB := fun w => Lib.hid (HdBox.new w nm 1 d 0 0 l 27)
  unfold hdV at RM ⊢
  generalize hkz : kwS 0 = kz at *
  clear hkz
  go_enter Tryd.func13, Tryd.ntmps13
  go_wp2_with (go_at_call 11; (with_reducible refine (RM _).mono ?_); rintro e w1 ⟨rfl, hw1⟩; have H1 := Lib.hid ((HB w).out.next hw1); have B1 := Lib.hid (hd_below _ _ hw1); obtain ⟨l1, x0, x1, x2, x3, x4, x5⟩ := H1.out; clear hw1)
  refine wp_region_held_drew (S := (fun W => W.cell? ⟨w.heap.size, 0, none⟩ = some (.string nm) ∧ W.cell? ⟨w.heap.size, 2, none⟩ = some (.int .i64 d))) (by kernel_rfl) (⟨x0, x2⟩) (fun hHeld0 => ?_)
  clear hHeld0
  refine wpAnyH_take (i := 0) (v := ?_) rfl (by kernel_rfl) (by kernel_rfl) (by kernel_rfl) (fun _ _ _ h => h) (Or.inl ⟨by kernel_rfl, ?_⟩) (⟨x0, x2⟩) ?_
  rotate_left
  · (intro w0 hSw; (try dsimp only at hSw); obtain ⟨q0, q2⟩ := hSw; go_simp; first | with_reducible rfl | (rw [if_neg (by omega)]))
  try dsimp only [List.getElem_toArray, List.getElem_cons_succ, List.getElem_cons_zero, Act.put]
  try simp only [List.setIfInBounds_toArray, List.set_cons_zero, List.set_cons_succ]
  refine wpAnyH_take (i := 1) (v := ?_) rfl (by kernel_rfl) (by kernel_rfl) (by kernel_rfl) (fun _ _ _ h => h) (Or.inl ⟨by kernel_rfl, ?_⟩) (⟨x0, x2⟩) ?_
  rotate_left
  · (intro w0 hSw; (try dsimp only at hSw); obtain ⟨q0, q2⟩ := hSw; go_simp; first | with_reducible rfl | (rw [if_neg (by omega)]))
  try dsimp only [List.getElem_toArray, List.getElem_cons_succ, List.getElem_cons_zero, Act.put]
  try simp only [List.setIfInBounds_toArray, List.set_cons_zero, List.set_cons_succ]
  refine wpAnyH_take (i := 2) (v := ?_) rfl (by kernel_rfl) (by kernel_rfl) (by kernel_rfl) (fun _ _ _ h => h) (Or.inl ⟨by kernel_rfl, ?_⟩) (⟨x0, x2⟩) ?_
  rotate_left
  · (intro w0 hSw; (try dsimp only at hSw); obtain ⟨q0, q2⟩ := hSw; go_simp; first | with_reducible rfl | (rw [if_neg (by omega)]))
  try dsimp only [List.getElem_toArray, List.getElem_cons_succ, List.getElem_cons_zero, Act.put]
  try simp only [List.setIfInBounds_toArray, List.set_cons_zero, List.set_cons_succ]
  refine wpAnyH_take (i := 3) (v := ?_) rfl (by kernel_rfl) (by kernel_rfl) (by kernel_rfl) (fun _ _ _ h => h) (Or.inl ⟨by kernel_rfl, ?_⟩) (⟨x0, x2⟩) ?_
  rotate_left
  · (intro w0 hSw; (try dsimp only at hSw); obtain ⟨q0, q2⟩ := hSw; go_simp; first | with_reducible rfl | (rw [if_neg (by omega)]))
  try dsimp only [List.getElem_toArray, List.getElem_cons_succ, List.getElem_cons_zero, Act.put]
  try simp only [List.setIfInBounds_toArray, List.set_cons_zero, List.set_cons_succ]
  refine wpAnyH_take (i := 4) (v := ?_) rfl (by kernel_rfl) (by kernel_rfl) (by kernel_rfl) (fun _ _ _ h => h) (Or.inl ⟨by kernel_rfl, ?_⟩) (⟨x0, x2⟩) ?_
  rotate_left
  · (intro w0 hSw; (try dsimp only at hSw); obtain ⟨q0, q2⟩ := hSw; go_simp; first | with_reducible rfl | (rw [if_neg (by omega)]))
  try dsimp only [List.getElem_toArray, List.getElem_cons_succ, List.getElem_cons_zero, Act.put]
  try simp only [List.setIfInBounds_toArray, List.set_cons_zero, List.set_cons_succ]
  refine wpAnyH_take (i := 5) (v := ?_) rfl (by kernel_rfl) (by kernel_rfl) (by kernel_rfl) (fun _ _ _ h => h) (Or.inl ⟨by kernel_rfl, ?_⟩) (⟨x0, x2⟩) ?_
  rotate_left
  · (intro w0 hSw; (try dsimp only at hSw); obtain ⟨q0, q2⟩ := hSw; go_simp; first | with_reducible rfl | (rw [if_neg (by omega)]))
  try dsimp only [List.getElem_toArray, List.getElem_cons_succ, List.getElem_cons_zero, Act.put]
  try simp only [List.setIfInBounds_toArray, List.set_cons_zero, List.set_cons_succ]
  refine wpAnyH_take (i := 6) (v := ?_) rfl (by kernel_rfl) (by kernel_rfl) (by kernel_rfl) (fun _ _ _ h => h) (Or.inl ⟨by kernel_rfl, ?_⟩) (⟨x0, x2⟩) ?_
  rotate_left
  · (intro w0 hSw; (try dsimp only at hSw); obtain ⟨q0, q2⟩ := hSw; go_simp; first | with_reducible rfl | (rw [if_neg (by omega)]))
  try dsimp only [List.getElem_toArray, List.getElem_cons_succ, List.getElem_cons_zero, Act.put]
  try simp only [List.setIfInBounds_toArray, List.set_cons_zero, List.set_cons_succ]
  refine wpAnyH_take (i := 7) (v := ?_) rfl (by kernel_rfl) (by kernel_rfl) (by kernel_rfl) (fun _ _ _ h => h) (Or.inl ⟨by kernel_rfl, ?_⟩) (⟨x0, x2⟩) ?_
  rotate_left
  · (intro w0 hSw; (try dsimp only at hSw); obtain ⟨q0, q2⟩ := hSw; go_simp; first | with_reducible rfl | (rw [if_neg (by omega)]))
  try dsimp only [List.getElem_toArray, List.getElem_cons_succ, List.getElem_cons_zero, Act.put]
  try simp only [List.setIfInBounds_toArray, List.set_cons_zero, List.set_cons_succ]
  refine wpAnyH_take (i := 8) (v := ?_) rfl (by kernel_rfl) (by kernel_rfl) (by kernel_rfl) (fun _ _ _ h => h) (Or.inl ⟨by kernel_rfl, ?_⟩) (⟨x0, x2⟩) ?_
  rotate_left
  · (intro w0 hSw; (try dsimp only at hSw); obtain ⟨q0, q2⟩ := hSw; go_simp; first | with_reducible rfl | (rw [if_neg (by omega)]))
  try dsimp only [List.getElem_toArray, List.getElem_cons_succ, List.getElem_cons_zero, Act.put]
  try simp only [List.setIfInBounds_toArray, List.set_cons_zero, List.set_cons_succ]
  refine wpAnyH_ready (rs := [9]) (by kernel_rfl) (by simp) (AllReadyH.cons rfl (fun KK hKK => ?_) AllReadyH.nil)
  go_simp
  go_at_call 27
  (with_reducible refine (RD _).mono ?_)
  rintro e w2 ⟨rfl, hw2⟩
  have H2 := Lib.hid (H1.out.drew.next hw2)
  have B2 := Lib.hid (B1.out.trans ((below_drew_hd w1 hw2).mono B1.out.size))
  refine hKK.out _ _ (⟨H2.out.c0, H2.out.c2⟩) (fun _ => ?_)
  clear hKK KK
  try dsimp only [List.getElem_toArray, List.getElem_cons_succ, List.getElem_cons_zero, Act.put]
  try simp only [List.setIfInBounds_toArray, List.set_cons_zero, List.set_cons_succ]
  clear hw2
  refine wpAnyH_take (i := 10) (v := ?_) rfl (by kernel_rfl) (by kernel_rfl) (by kernel_rfl) (fun _ _ _ h => h) (Or.inl ⟨by kernel_rfl, ?_⟩) (⟨H2.out.c0, H2.out.c2⟩) ?_
  rotate_left
  · (intro w0 hSw; (try dsimp only at hSw); obtain ⟨q0, q2⟩ := hSw; go_simp; first | with_reducible rfl | (rw [if_neg (by omega)]))
  try dsimp only [List.getElem_toArray, List.getElem_cons_succ, List.getElem_cons_zero, Act.put]
  try simp only [List.setIfInBounds_toArray, List.set_cons_zero, List.set_cons_succ]
  refine wpAnyH_take (i := 11) (v := ?_) rfl (by kernel_rfl) (by kernel_rfl) (by kernel_rfl) (fun _ _ _ h => h) (Or.inl ⟨by kernel_rfl, ?_⟩) (⟨H2.out.c0, H2.out.c2⟩) ?_
  rotate_left
  · (intro w0 hSw; (try dsimp only at hSw); obtain ⟨q0, q2⟩ := hSw; go_simp; first | with_reducible rfl | (rw [if_neg (by omega)]))
  try dsimp only [List.getElem_toArray, List.getElem_cons_succ, List.getElem_cons_zero, Act.put]
  try simp only [List.setIfInBounds_toArray, List.set_cons_zero, List.set_cons_succ]
  refine wpAnyH_take (i := 12) (v := ?_) rfl (by kernel_rfl) (by kernel_rfl) (by kernel_rfl) (fun _ _ _ h => h) (Or.inl ⟨by kernel_rfl, ?_⟩) (⟨H2.out.c0, H2.out.c2⟩) ?_
  rotate_left
  · (intro w0 hSw; (try dsimp only at hSw); obtain ⟨q0, q2⟩ := hSw; go_simp; first | with_reducible rfl | (rw [if_neg (by omega)]))
  try dsimp only [List.getElem_toArray, List.getElem_cons_succ, List.getElem_cons_zero, Act.put]
  try simp only [List.setIfInBounds_toArray, List.set_cons_zero, List.set_cons_succ]
  refine wpAnyH_done (by kernel_rfl) ?_ _
  try dsimp only [List.getElem_toArray, List.getElem_cons_succ, List.getElem_cons_zero, Act.put]
  try simp only [List.setIfInBounds_toArray, List.set_cons_zero, List.set_cons_succ]
  obtain ⟨l2, y0, y1, y2, y3, y4, y5⟩ := H2.out
  go_wp2_with (first | (go_at_call 28; (with_reducible refine (RK _).mono ?_); rintro e w3 ⟨rfl, hw3⟩; subst hw3) | (go_at_call 29; (with_reducible refine (RL _).mono ?_); rintro e w5 ⟨rfl, hw5⟩; subst hw5))
  all_goals first | (exfalso; omega) | skip
  refine bodyPost_ret (v := .string ((⟨#[78, 65, 77, 69, 32, 58, 32]⟩ : ByteArray) ++ nm ++ ⟨#[10, 84, 89, 80, 69, 32, 58, 32]⟩ ++ ⟨#[84, 83, 80]⟩ ++ ⟨#[10, 68, 73, 77, 69, 78, 83, 73, 79, 78, 32, 58, 32]⟩ ++ ⟨(Lib.itoa d).toArray⟩ ++ ⟨#[10]⟩ ++ ⟨#[69, 68, 71, 69, 95, 87, 69, 73, 71, 72, 84, 95, 84, 89, 80, 69, 32, 58, 32]⟩ ++ kz ++ ⟨#[10]⟩ ++ ⟨#[69, 68, 71, 69, 95, 87, 69, 73, 71, 72, 84, 95, 70, 79, 82, 77, 65, 84, 32, 58, 32]⟩ ++ (lkwS l) ++ ⟨#[10]⟩)) (by simp [results, Tryd.results13, go_sem]) rfl (hd_told (by rw [HP.out]; exact congrArg Value.string (htext11 nm ⟨(Lib.itoa d).toArray⟩ kz (lkwS l))) B2.out)
theorem htext20 (nm q cq kw : ByteArray) : (⟨#[78, 65, 77, 69, 32, 58, 32]⟩ : ByteArray) ++ nm ++ ⟨#[10, 84, 89, 80, 69, 32, 58, 32]⟩ ++ ⟨#[67, 86, 82, 80]⟩ ++ ⟨#[10, 68, 73, 77, 69, 78, 83, 73, 79, 78, 32, 58, 32]⟩ ++ q ++ ⟨#[10]⟩ ++ ⟨#[67, 65, 80, 65, 67, 73, 84, 89, 32, 58, 32]⟩ ++ cq ++ ⟨#[10]⟩ ++ ⟨#[69, 68, 71, 69, 95, 87, 69, 73, 71, 72, 84, 95, 84, 89, 80, 69, 32, 58, 32]⟩ ++ kw ++ ⟨#[10]⟩ = lineH hkName nm ++ lineH hkType (kindS 2) ++ lineH hkDim q ++ lineH hkCap cq ++ lineH hkMet kw ++ ⟨#[]⟩ := by
  apply ByteArray.ext
  apply Array.toList_inj.1
  simp [lineH, hkName, hkType, hkDim, hkCap, hkMet, kindS, hkCvrp, Hdr.col, Hdr.lf, ByteArray.data_append]
set_option maxRecDepth 100000 in
set_option maxHeartbeats 8000000 in
theorem Tryd.rprint_20 (nm : ByteArray) (d c m : Int) (w : World) (hs : nm.size ≤ 2000000) (hm : mayH ⟨nm, 2, d, c, m, 0⟩ = true) (h0 : m ≠ 0) (hd : 1 ≤ d ∧ d ≤ 400) (hc : 1 ≤ c ∧ c ≤ 100000000) :
    Calls Tryd.prog 13 #[hdV ⟨nm, 2, d, c, m, 0⟩] w fun e w' => e = .returned (.string (printE ⟨nm, 2, d, c, m, 0⟩)) ∧ Below w.heap.size w w' := by
  have RM := fun w => Tryd.rhmay_calls ⟨nm, 2, d, c, m, 0⟩ w (Nat.le_trans hs (by decide))
  rw [hm] at RM
  have RD := fun w => Tryd.Num_any d (by omega) (by omega) w
  have RK := fun w => Tryd.RKeyword_calls m w
  have hlen := Lib.itoa_length_le d (by omega) (by omega)
  have hkw := kw_short m
  have RC := fun w => Tryd.Num_any c (by omega) (by omega) w
  have hlenc := Lib.itoa_length_le c (by omega) (by omega)
  have HP := Lib.hid (show printE ⟨nm, 2, d, c, m, 0⟩ = lineH hkName nm ++ lineH hkType (kindS 2) ++ lineH hkDim (numS d) ++ lineH hkCap (numS c) ++ lineH hkMet (kwS m) ++ ⟨#[]⟩ by unfold printE; rw [hm]; simp only [if_true, if_neg h0])
  clear hm
  have HB := fun w => Lib.hid (HdBox.new w nm 2 d c m 0 27)
  unfold hdV at RM ⊢
  go_enter Tryd.func13, Tryd.ntmps13
  go_wp2_with (go_at_call 11; (with_reducible refine (RM _).mono ?_); rintro e w1 ⟨rfl, hw1⟩; have H1 := Lib.hid ((HB w).out.next hw1); have B1 := Lib.hid (hd_below _ _ hw1); obtain ⟨l1, x0, x1, x2, x3, x4, x5⟩ := H1.out; clear hw1)
  refine wp_region_held_drew (S := (fun W => W.cell? ⟨w.heap.size, 0, none⟩ = some (.string nm) ∧ W.cell? ⟨w.heap.size, 2, none⟩ = some (.int .i64 d))) (by kernel_rfl) (⟨x0, x2⟩) (fun hHeld0 => ?_)
  clear hHeld0
  refine wpAnyH_take (i := 0) (v := ?_) rfl (by kernel_rfl) (by kernel_rfl) (by kernel_rfl) (fun _ _ _ h => h) (Or.inl ⟨by kernel_rfl, ?_⟩) (⟨x0, x2⟩) ?_
  rotate_left
  · (intro w0 hSw; (try dsimp only at hSw); obtain ⟨q0, q2⟩ := hSw; go_simp; first | with_reducible rfl | (rw [if_neg (by omega)]))
  try dsimp only [List.getElem_toArray, List.getElem_cons_succ, List.getElem_cons_zero, Act.put]
  try simp only [List.setIfInBounds_toArray, List.set_cons_zero, List.set_cons_succ]
  refine wpAnyH_take (i := 1) (v := ?_) rfl (by kernel_rfl) (by kernel_rfl) (by kernel_rfl) (fun _ _ _ h => h) (Or.inl ⟨by kernel_rfl, ?_⟩) (⟨x0, x2⟩) ?_
  rotate_left
  · (intro w0 hSw; (try dsimp only at hSw); obtain ⟨q0, q2⟩ := hSw; go_simp; first | with_reducible rfl | (rw [if_neg (by omega)]))
  try dsimp only [List.getElem_toArray, List.getElem_cons_succ, List.getElem_cons_zero, Act.put]
  try simp only [List.setIfInBounds_toArray, List.set_cons_zero, List.set_cons_succ]
  refine wpAnyH_take (i := 2) (v := ?_) rfl (by kernel_rfl) (by kernel_rfl) (by kernel_rfl) (fun _ _ _ h => h) (Or.inl ⟨by kernel_rfl, ?_⟩) (⟨x0, x2⟩) ?_
  rotate_left
  · (intro w0 hSw; (try dsimp only at hSw); obtain ⟨q0, q2⟩ := hSw; go_simp; first | with_reducible rfl | (rw [if_neg (by omega)]))
  try dsimp only [List.getElem_toArray, List.getElem_cons_succ, List.getElem_cons_zero, Act.put]
  try simp only [List.setIfInBounds_toArray, List.set_cons_zero, List.set_cons_succ]
  refine wpAnyH_take (i := 3) (v := ?_) rfl (by kernel_rfl) (by kernel_rfl) (by kernel_rfl) (fun _ _ _ h => h) (Or.inl ⟨by kernel_rfl, ?_⟩) (⟨x0, x2⟩) ?_
  rotate_left
  · (intro w0 hSw; (try dsimp only at hSw); obtain ⟨q0, q2⟩ := hSw; go_simp; first | with_reducible rfl | (rw [if_neg (by omega)]))
  try dsimp only [List.getElem_toArray, List.getElem_cons_succ, List.getElem_cons_zero, Act.put]
  try simp only [List.setIfInBounds_toArray, List.set_cons_zero, List.set_cons_succ]
  refine wpAnyH_take (i := 4) (v := ?_) rfl (by kernel_rfl) (by kernel_rfl) (by kernel_rfl) (fun _ _ _ h => h) (Or.inl ⟨by kernel_rfl, ?_⟩) (⟨x0, x2⟩) ?_
  rotate_left
  · (intro w0 hSw; (try dsimp only at hSw); obtain ⟨q0, q2⟩ := hSw; go_simp; first | with_reducible rfl | (rw [if_neg (by omega)]))
  try dsimp only [List.getElem_toArray, List.getElem_cons_succ, List.getElem_cons_zero, Act.put]
  try simp only [List.setIfInBounds_toArray, List.set_cons_zero, List.set_cons_succ]
  refine wpAnyH_take (i := 5) (v := ?_) rfl (by kernel_rfl) (by kernel_rfl) (by kernel_rfl) (fun _ _ _ h => h) (Or.inl ⟨by kernel_rfl, ?_⟩) (⟨x0, x2⟩) ?_
  rotate_left
  · (intro w0 hSw; (try dsimp only at hSw); obtain ⟨q0, q2⟩ := hSw; go_simp; first | with_reducible rfl | (rw [if_neg (by omega)]))
  try dsimp only [List.getElem_toArray, List.getElem_cons_succ, List.getElem_cons_zero, Act.put]
  try simp only [List.setIfInBounds_toArray, List.set_cons_zero, List.set_cons_succ]
  refine wpAnyH_take (i := 6) (v := ?_) rfl (by kernel_rfl) (by kernel_rfl) (by kernel_rfl) (fun _ _ _ h => h) (Or.inl ⟨by kernel_rfl, ?_⟩) (⟨x0, x2⟩) ?_
  rotate_left
  · (intro w0 hSw; (try dsimp only at hSw); obtain ⟨q0, q2⟩ := hSw; go_simp; first | with_reducible rfl | (rw [if_neg (by omega)]))
  try dsimp only [List.getElem_toArray, List.getElem_cons_succ, List.getElem_cons_zero, Act.put]
  try simp only [List.setIfInBounds_toArray, List.set_cons_zero, List.set_cons_succ]
  refine wpAnyH_take (i := 7) (v := ?_) rfl (by kernel_rfl) (by kernel_rfl) (by kernel_rfl) (fun _ _ _ h => h) (Or.inl ⟨by kernel_rfl, ?_⟩) (⟨x0, x2⟩) ?_
  rotate_left
  · (intro w0 hSw; (try dsimp only at hSw); obtain ⟨q0, q2⟩ := hSw; go_simp; first | with_reducible rfl | (rw [if_neg (by omega)]))
  try dsimp only [List.getElem_toArray, List.getElem_cons_succ, List.getElem_cons_zero, Act.put]
  try simp only [List.setIfInBounds_toArray, List.set_cons_zero, List.set_cons_succ]
  refine wpAnyH_take (i := 8) (v := ?_) rfl (by kernel_rfl) (by kernel_rfl) (by kernel_rfl) (fun _ _ _ h => h) (Or.inl ⟨by kernel_rfl, ?_⟩) (⟨x0, x2⟩) ?_
  rotate_left
  · (intro w0 hSw; (try dsimp only at hSw); obtain ⟨q0, q2⟩ := hSw; go_simp; first | with_reducible rfl | (rw [if_neg (by omega)]))
  try dsimp only [List.getElem_toArray, List.getElem_cons_succ, List.getElem_cons_zero, Act.put]
  try simp only [List.setIfInBounds_toArray, List.set_cons_zero, List.set_cons_succ]
  refine wpAnyH_ready (rs := [9]) (by kernel_rfl) (by simp) (AllReadyH.cons rfl (fun KK hKK => ?_) AllReadyH.nil)
  go_simp
  go_at_call 27
  (with_reducible refine (RD _).mono ?_)
  rintro e w2 ⟨rfl, hw2⟩
  have H2 := Lib.hid (H1.out.drew.next hw2)
  have B2 := Lib.hid (B1.out.trans ((below_drew_hd w1 hw2).mono B1.out.size))
  refine hKK.out _ _ (⟨H2.out.c0, H2.out.c2⟩) (fun _ => ?_)
  clear hKK KK
  try dsimp only [List.getElem_toArray, List.getElem_cons_succ, List.getElem_cons_zero, Act.put]
  try simp only [List.setIfInBounds_toArray, List.set_cons_zero, List.set_cons_succ]
  clear hw2
  refine wpAnyH_take (i := 10) (v := ?_) rfl (by kernel_rfl) (by kernel_rfl) (by kernel_rfl) (fun _ _ _ h => h) (Or.inl ⟨by kernel_rfl, ?_⟩) (⟨H2.out.c0, H2.out.c2⟩) ?_
  rotate_left
  · (intro w0 hSw; (try dsimp only at hSw); obtain ⟨q0, q2⟩ := hSw; go_simp; first | with_reducible rfl | (rw [if_neg (by omega)]))
  try dsimp only [List.getElem_toArray, List.getElem_cons_succ, List.getElem_cons_zero, Act.put]
  try simp only [List.setIfInBounds_toArray, List.set_cons_zero, List.set_cons_succ]
  refine wpAnyH_take (i := 11) (v := ?_) rfl (by kernel_rfl) (by kernel_rfl) (by kernel_rfl) (fun _ _ _ h => h) (Or.inl ⟨by kernel_rfl, ?_⟩) (⟨H2.out.c0, H2.out.c2⟩) ?_
  rotate_left
  · (intro w0 hSw; (try dsimp only at hSw); obtain ⟨q0, q2⟩ := hSw; go_simp; first | with_reducible rfl | (rw [if_neg (by omega)]))
  try dsimp only [List.getElem_toArray, List.getElem_cons_succ, List.getElem_cons_zero, Act.put]
  try simp only [List.setIfInBounds_toArray, List.set_cons_zero, List.set_cons_succ]
  refine wpAnyH_take (i := 12) (v := ?_) rfl (by kernel_rfl) (by kernel_rfl) (by kernel_rfl) (fun _ _ _ h => h) (Or.inl ⟨by kernel_rfl, ?_⟩) (⟨H2.out.c0, H2.out.c2⟩) ?_
  rotate_left
  · (intro w0 hSw; (try dsimp only at hSw); obtain ⟨q0, q2⟩ := hSw; go_simp; first | with_reducible rfl | (rw [if_neg (by omega)]))
  try dsimp only [List.getElem_toArray, List.getElem_cons_succ, List.getElem_cons_zero, Act.put]
  try simp only [List.setIfInBounds_toArray, List.set_cons_zero, List.set_cons_succ]
  refine wpAnyH_done (by kernel_rfl) ?_ _
  try dsimp only [List.getElem_toArray, List.getElem_cons_succ, List.getElem_cons_zero, Act.put]
  try simp only [List.setIfInBounds_toArray, List.set_cons_zero, List.set_cons_succ]
  obtain ⟨l2, y0, y1, y2, y3, y4, y5⟩ := H2.out
  go_wp2_with (first | (go_at_call 28; (with_reducible refine (RK _).mono ?_); rintro e w3 ⟨rfl, hw3⟩; subst hw3) | (go_at_call 27; (with_reducible refine (RC _).mono ?_); rintro e w4 ⟨rfl, hw4⟩; have H4 := Lib.hid (H2.out.next hw4); have B4 := Lib.hid (B2.out.trans (hw4.mono B2.out.size)); obtain ⟨l4, z0, z1, z2, z3, z4, z5⟩ := H4.out; clear hw4))
  all_goals first | (exfalso; omega) | skip
  refine bodyPost_ret (v := .string ((⟨#[78, 65, 77, 69, 32, 58, 32]⟩ : ByteArray) ++ nm ++ ⟨#[10, 84, 89, 80, 69, 32, 58, 32]⟩ ++ ⟨#[67, 86, 82, 80]⟩ ++ ⟨#[10, 68, 73, 77, 69, 78, 83, 73, 79, 78, 32, 58, 32]⟩ ++ ⟨(Lib.itoa d).toArray⟩ ++ ⟨#[10]⟩ ++ ⟨#[67, 65, 80, 65, 67, 73, 84, 89, 32, 58, 32]⟩ ++ ⟨(Lib.itoa c).toArray⟩ ++ ⟨#[10]⟩ ++ ⟨#[69, 68, 71, 69, 95, 87, 69, 73, 71, 72, 84, 95, 84, 89, 80, 69, 32, 58, 32]⟩ ++ (kwS m) ++ ⟨#[10]⟩)) (by simp [results, Tryd.results13, go_sem]) rfl (hd_told (by rw [HP.out]; exact congrArg Value.string (htext20 nm ⟨(Lib.itoa d).toArray⟩ ⟨(Lib.itoa c).toArray⟩ (kwS m))) B4.out)
theorem htext21 (nm q cq kw lw : ByteArray) : (⟨#[78, 65, 77, 69, 32, 58, 32]⟩ : ByteArray) ++ nm ++ ⟨#[10, 84, 89, 80, 69, 32, 58, 32]⟩ ++ ⟨#[67, 86, 82, 80]⟩ ++ ⟨#[10, 68, 73, 77, 69, 78, 83, 73, 79, 78, 32, 58, 32]⟩ ++ q ++ ⟨#[10]⟩ ++ ⟨#[67, 65, 80, 65, 67, 73, 84, 89, 32, 58, 32]⟩ ++ cq ++ ⟨#[10]⟩ ++ ⟨#[69, 68, 71, 69, 95, 87, 69, 73, 71, 72, 84, 95, 84, 89, 80, 69, 32, 58, 32]⟩ ++ kw ++ ⟨#[10]⟩ ++ ⟨#[69, 68, 71, 69, 95, 87, 69, 73, 71, 72, 84, 95, 70, 79, 82, 77, 65, 84, 32, 58, 32]⟩ ++ lw ++ ⟨#[10]⟩ = lineH hkName nm ++ lineH hkType (kindS 2) ++ lineH hkDim q ++ lineH hkCap cq ++ lineH hkMet kw ++ lineH hkLay lw := by
  apply ByteArray.ext
  apply Array.toList_inj.1
  simp [lineH, hkName, hkType, hkDim, hkCap, hkMet, hkLay, kindS, hkCvrp, Hdr.col, Hdr.lf, ByteArray.data_append]
set_option maxRecDepth 100000 in
set_option maxHeartbeats 8000000 in
theorem Tryd.rprint_21 (nm : ByteArray) (d c l : Int) (w : World) (hs : nm.size ≤ 2000000) (hm : mayH ⟨nm, 2, d, c, 0, l⟩ = true) (hd : 1 ≤ d ∧ d ≤ 400) (hc : 1 ≤ c ∧ c ≤ 100000000) :
    Calls Tryd.prog 13 #[hdV ⟨nm, 2, d, c, 0, l⟩] w fun e w' => e = .returned (.string (printE ⟨nm, 2, d, c, 0, l⟩)) ∧ Below w.heap.size w w' := by
  have RM := fun w => Tryd.rhmay_calls ⟨nm, 2, d, c, 0, l⟩ w (Nat.le_trans hs (by decide))
  rw [hm] at RM
  have RD := fun w => Tryd.Num_any d (by omega) (by omega) w
  have RK := fun w => Tryd.RKeyword_calls 0 w
  have hlen := Lib.itoa_length_le d (by omega) (by omega)
  have hkw := kw_short 0
  have RC := fun w => Tryd.Num_any c (by omega) (by omega) w
  have hlenc := Lib.itoa_length_le c (by omega) (by omega)
  have RL := fun w => Tryd.RLKeyword_calls l w
  have hlkw := lkw_short l
  have HP := Lib.hid (show printE ⟨nm, 2, d, c, 0, l⟩ = lineH hkName nm ++ lineH hkType (kindS 2) ++ lineH hkDim (numS d) ++ lineH hkCap (numS c) ++ lineH hkMet (kwS 0) ++ lineH hkLay (lkwS l) by unfold printE; rw [hm]; simp only [if_true])
  clear hm
  have HB := fun w => Lib.hid (HdBox.new w nm 2 d c 0 l 27)
  unfold hdV at RM ⊢
  generalize hkz : kwS 0 = kz at *
  clear hkz
  go_enter Tryd.func13, Tryd.ntmps13
  go_wp2_with (go_at_call 11; (with_reducible refine (RM _).mono ?_); rintro e w1 ⟨rfl, hw1⟩; have H1 := Lib.hid ((HB w).out.next hw1); have B1 := Lib.hid (hd_below _ _ hw1); obtain ⟨l1, x0, x1, x2, x3, x4, x5⟩ := H1.out; clear hw1)
  refine wp_region_held_drew (S := (fun W => W.cell? ⟨w.heap.size, 0, none⟩ = some (.string nm) ∧ W.cell? ⟨w.heap.size, 2, none⟩ = some (.int .i64 d))) (by kernel_rfl) (⟨x0, x2⟩) (fun hHeld0 => ?_)
  clear hHeld0
  refine wpAnyH_take (i := 0) (v := ?_) rfl (by kernel_rfl) (by kernel_rfl) (by kernel_rfl) (fun _ _ _ h => h) (Or.inl ⟨by kernel_rfl, ?_⟩) (⟨x0, x2⟩) ?_
  rotate_left
  · (intro w0 hSw; (try dsimp only at hSw); obtain ⟨q0, q2⟩ := hSw; go_simp; first | with_reducible rfl | (rw [if_neg (by omega)]))
  try dsimp only [List.getElem_toArray, List.getElem_cons_succ, List.getElem_cons_zero, Act.put]
  try simp only [List.setIfInBounds_toArray, List.set_cons_zero, List.set_cons_succ]
  refine wpAnyH_take (i := 1) (v := ?_) rfl (by kernel_rfl) (by kernel_rfl) (by kernel_rfl) (fun _ _ _ h => h) (Or.inl ⟨by kernel_rfl, ?_⟩) (⟨x0, x2⟩) ?_
  rotate_left
  · (intro w0 hSw; (try dsimp only at hSw); obtain ⟨q0, q2⟩ := hSw; go_simp; first | with_reducible rfl | (rw [if_neg (by omega)]))
  try dsimp only [List.getElem_toArray, List.getElem_cons_succ, List.getElem_cons_zero, Act.put]
  try simp only [List.setIfInBounds_toArray, List.set_cons_zero, List.set_cons_succ]
  refine wpAnyH_take (i := 2) (v := ?_) rfl (by kernel_rfl) (by kernel_rfl) (by kernel_rfl) (fun _ _ _ h => h) (Or.inl ⟨by kernel_rfl, ?_⟩) (⟨x0, x2⟩) ?_
  rotate_left
  · (intro w0 hSw; (try dsimp only at hSw); obtain ⟨q0, q2⟩ := hSw; go_simp; first | with_reducible rfl | (rw [if_neg (by omega)]))
  try dsimp only [List.getElem_toArray, List.getElem_cons_succ, List.getElem_cons_zero, Act.put]
  try simp only [List.setIfInBounds_toArray, List.set_cons_zero, List.set_cons_succ]
  refine wpAnyH_take (i := 3) (v := ?_) rfl (by kernel_rfl) (by kernel_rfl) (by kernel_rfl) (fun _ _ _ h => h) (Or.inl ⟨by kernel_rfl, ?_⟩) (⟨x0, x2⟩) ?_
  rotate_left
  · (intro w0 hSw; (try dsimp only at hSw); obtain ⟨q0, q2⟩ := hSw; go_simp; first | with_reducible rfl | (rw [if_neg (by omega)]))
  try dsimp only [List.getElem_toArray, List.getElem_cons_succ, List.getElem_cons_zero, Act.put]
  try simp only [List.setIfInBounds_toArray, List.set_cons_zero, List.set_cons_succ]
  refine wpAnyH_take (i := 4) (v := ?_) rfl (by kernel_rfl) (by kernel_rfl) (by kernel_rfl) (fun _ _ _ h => h) (Or.inl ⟨by kernel_rfl, ?_⟩) (⟨x0, x2⟩) ?_
  rotate_left
  · (intro w0 hSw; (try dsimp only at hSw); obtain ⟨q0, q2⟩ := hSw; go_simp; first | with_reducible rfl | (rw [if_neg (by omega)]))
  try dsimp only [List.getElem_toArray, List.getElem_cons_succ, List.getElem_cons_zero, Act.put]
  try simp only [List.setIfInBounds_toArray, List.set_cons_zero, List.set_cons_succ]
  refine wpAnyH_take (i := 5) (v := ?_) rfl (by kernel_rfl) (by kernel_rfl) (by kernel_rfl) (fun _ _ _ h => h) (Or.inl ⟨by kernel_rfl, ?_⟩) (⟨x0, x2⟩) ?_
  rotate_left
  · (intro w0 hSw; (try dsimp only at hSw); obtain ⟨q0, q2⟩ := hSw; go_simp; first | with_reducible rfl | (rw [if_neg (by omega)]))
  try dsimp only [List.getElem_toArray, List.getElem_cons_succ, List.getElem_cons_zero, Act.put]
  try simp only [List.setIfInBounds_toArray, List.set_cons_zero, List.set_cons_succ]
  refine wpAnyH_take (i := 6) (v := ?_) rfl (by kernel_rfl) (by kernel_rfl) (by kernel_rfl) (fun _ _ _ h => h) (Or.inl ⟨by kernel_rfl, ?_⟩) (⟨x0, x2⟩) ?_
  rotate_left
  · (intro w0 hSw; (try dsimp only at hSw); obtain ⟨q0, q2⟩ := hSw; go_simp; first | with_reducible rfl | (rw [if_neg (by omega)]))
  try dsimp only [List.getElem_toArray, List.getElem_cons_succ, List.getElem_cons_zero, Act.put]
  try simp only [List.setIfInBounds_toArray, List.set_cons_zero, List.set_cons_succ]
  refine wpAnyH_take (i := 7) (v := ?_) rfl (by kernel_rfl) (by kernel_rfl) (by kernel_rfl) (fun _ _ _ h => h) (Or.inl ⟨by kernel_rfl, ?_⟩) (⟨x0, x2⟩) ?_
  rotate_left
  · (intro w0 hSw; (try dsimp only at hSw); obtain ⟨q0, q2⟩ := hSw; go_simp; first | with_reducible rfl | (rw [if_neg (by omega)]))
  try dsimp only [List.getElem_toArray, List.getElem_cons_succ, List.getElem_cons_zero, Act.put]
  try simp only [List.setIfInBounds_toArray, List.set_cons_zero, List.set_cons_succ]
  refine wpAnyH_take (i := 8) (v := ?_) rfl (by kernel_rfl) (by kernel_rfl) (by kernel_rfl) (fun _ _ _ h => h) (Or.inl ⟨by kernel_rfl, ?_⟩) (⟨x0, x2⟩) ?_
  rotate_left
  · (intro w0 hSw; (try dsimp only at hSw); obtain ⟨q0, q2⟩ := hSw; go_simp; first | with_reducible rfl | (rw [if_neg (by omega)]))
  try dsimp only [List.getElem_toArray, List.getElem_cons_succ, List.getElem_cons_zero, Act.put]
  try simp only [List.setIfInBounds_toArray, List.set_cons_zero, List.set_cons_succ]
  refine wpAnyH_ready (rs := [9]) (by kernel_rfl) (by simp) (AllReadyH.cons rfl (fun KK hKK => ?_) AllReadyH.nil)
  go_simp
  go_at_call 27
  (with_reducible refine (RD _).mono ?_)
  rintro e w2 ⟨rfl, hw2⟩
  have H2 := Lib.hid (H1.out.drew.next hw2)
  have B2 := Lib.hid (B1.out.trans ((below_drew_hd w1 hw2).mono B1.out.size))
  refine hKK.out _ _ (⟨H2.out.c0, H2.out.c2⟩) (fun _ => ?_)
  clear hKK KK
  try dsimp only [List.getElem_toArray, List.getElem_cons_succ, List.getElem_cons_zero, Act.put]
  try simp only [List.setIfInBounds_toArray, List.set_cons_zero, List.set_cons_succ]
  clear hw2
  refine wpAnyH_take (i := 10) (v := ?_) rfl (by kernel_rfl) (by kernel_rfl) (by kernel_rfl) (fun _ _ _ h => h) (Or.inl ⟨by kernel_rfl, ?_⟩) (⟨H2.out.c0, H2.out.c2⟩) ?_
  rotate_left
  · (intro w0 hSw; (try dsimp only at hSw); obtain ⟨q0, q2⟩ := hSw; go_simp; first | with_reducible rfl | (rw [if_neg (by omega)]))
  try dsimp only [List.getElem_toArray, List.getElem_cons_succ, List.getElem_cons_zero, Act.put]
  try simp only [List.setIfInBounds_toArray, List.set_cons_zero, List.set_cons_succ]
  refine wpAnyH_take (i := 11) (v := ?_) rfl (by kernel_rfl) (by kernel_rfl) (by kernel_rfl) (fun _ _ _ h => h) (Or.inl ⟨by kernel_rfl, ?_⟩) (⟨H2.out.c0, H2.out.c2⟩) ?_
  rotate_left
  · (intro w0 hSw; (try dsimp only at hSw); obtain ⟨q0, q2⟩ := hSw; go_simp; first | with_reducible rfl | (rw [if_neg (by omega)]))
  try dsimp only [List.getElem_toArray, List.getElem_cons_succ, List.getElem_cons_zero, Act.put]
  try simp only [List.setIfInBounds_toArray, List.set_cons_zero, List.set_cons_succ]
  refine wpAnyH_take (i := 12) (v := ?_) rfl (by kernel_rfl) (by kernel_rfl) (by kernel_rfl) (fun _ _ _ h => h) (Or.inl ⟨by kernel_rfl, ?_⟩) (⟨H2.out.c0, H2.out.c2⟩) ?_
  rotate_left
  · (intro w0 hSw; (try dsimp only at hSw); obtain ⟨q0, q2⟩ := hSw; go_simp; first | with_reducible rfl | (rw [if_neg (by omega)]))
  try dsimp only [List.getElem_toArray, List.getElem_cons_succ, List.getElem_cons_zero, Act.put]
  try simp only [List.setIfInBounds_toArray, List.set_cons_zero, List.set_cons_succ]
  refine wpAnyH_done (by kernel_rfl) ?_ _
  try dsimp only [List.getElem_toArray, List.getElem_cons_succ, List.getElem_cons_zero, Act.put]
  try simp only [List.setIfInBounds_toArray, List.set_cons_zero, List.set_cons_succ]
  obtain ⟨l2, y0, y1, y2, y3, y4, y5⟩ := H2.out
  go_wp2_with (first | (go_at_call 28; (with_reducible refine (RK _).mono ?_); rintro e w3 ⟨rfl, hw3⟩; subst hw3) | (go_at_call 27; (with_reducible refine (RC _).mono ?_); rintro e w4 ⟨rfl, hw4⟩; have H4 := Lib.hid (H2.out.next hw4); have B4 := Lib.hid (B2.out.trans (hw4.mono B2.out.size)); obtain ⟨l4, z0, z1, z2, z3, z4, z5⟩ := H4.out; clear hw4) | (go_at_call 29; (with_reducible refine (RL _).mono ?_); rintro e w5 ⟨rfl, hw5⟩; subst hw5))
  all_goals first | (exfalso; omega) | skip
  refine bodyPost_ret (v := .string ((⟨#[78, 65, 77, 69, 32, 58, 32]⟩ : ByteArray) ++ nm ++ ⟨#[10, 84, 89, 80, 69, 32, 58, 32]⟩ ++ ⟨#[67, 86, 82, 80]⟩ ++ ⟨#[10, 68, 73, 77, 69, 78, 83, 73, 79, 78, 32, 58, 32]⟩ ++ ⟨(Lib.itoa d).toArray⟩ ++ ⟨#[10]⟩ ++ ⟨#[67, 65, 80, 65, 67, 73, 84, 89, 32, 58, 32]⟩ ++ ⟨(Lib.itoa c).toArray⟩ ++ ⟨#[10]⟩ ++ ⟨#[69, 68, 71, 69, 95, 87, 69, 73, 71, 72, 84, 95, 84, 89, 80, 69, 32, 58, 32]⟩ ++ kz ++ ⟨#[10]⟩ ++ ⟨#[69, 68, 71, 69, 95, 87, 69, 73, 71, 72, 84, 95, 70, 79, 82, 77, 65, 84, 32, 58, 32]⟩ ++ (lkwS l) ++ ⟨#[10]⟩)) (by simp [results, Tryd.results13, go_sem]) rfl (hd_told (by rw [HP.out]; exact congrArg Value.string (htext21 nm ⟨(Lib.itoa d).toArray⟩ ⟨(Lib.itoa c).toArray⟩ kz (lkwS l))) B4.out)
theorem Tryd.rprint_calls (h : Hd) (w : World) (hs : h.name.size ≤ 2000000) :
    Calls Tryd.prog 13 #[hdV h] w fun e w' => e = .returned (.string (printE h)) ∧ Below w.heap.size w w' := by
  cases hm : mayH h with
  | false => exact Tryd.rprint_no h w hs hm
  | true =>
    obtain ⟨nm, k, d, c, m, l⟩ := h
    have hx := hm
    unfold mayH at hx
    simp only [Bool.and_eq_true, decide_eq_true_eq] at hx
    obtain ⟨⟨⟨⟨_, hd⟩, _⟩, hl⟩, hk⟩ := hx
    rcases hk with ⟨rfl, rfl⟩ | ⟨rfl, hc⟩ <;> rcases hl with ⟨rfl, _⟩ | ⟨h0, rfl⟩
    · exact Tryd.rprint_11 nm d l w hs hm hd
    · exact Tryd.rprint_10 nm d m w hs hm h0 hd
    · exact Tryd.rprint_21 nm d c l w hs hm hd hc
    · exact Tryd.rprint_20 nm d c m w hs hm h0 hd hc
#print axioms Tryd.rprint_calls
end Go.Proofs
/- Plain facts: the lines of a text, a line feed, and another text; no program. -/
namespace Go.Cur
def shift2 (n : Nat) (p : Nat × Nat) : Nat × Nat := (p.1 + n, p.2 + n)
def shift3 (n : Nat) (p : Nat × Nat × Nat) : Nat × Nat × Nat := (p.1 + n, p.2.1 + n, p.2.2 + n)
theorem spans_shift (n : Nat) : ∀ (r : List UInt8) (b a : Nat), spansFrom r (b + n) (a + n) = (spansFrom r b a).map (shift2 n)
  | [], b, a => rfl
  | c :: r, b, a => by
    unfold spansFrom
    split
    · have := spans_shift n r (b + 1) (b + 1)
      rw [show b + 1 + n = b + n + 1 from by omega] at this
      rw [this]; rfl
    · have := spans_shift n r (b + 1) a
      rw [show b + 1 + n = b + n + 1 from by omega] at this
      exact this
theorem spans_cut : ∀ (l : List UInt8) (base a : Nat), a ≤ base → ∃ P : List (Nat × Nat), P ≠ [] ∧ (∀ r, spansFrom (l ++ 10 :: r) base a = P ++ spansFrom r (base + l.length + 1) (base + l.length + 1)) ∧ ∀ p ∈ P, p.1 ≤ p.2 ∧ p.2 ≤ base + l.length
  | [], base, a, h => ⟨[(a, base)], by simp, fun r => rfl, fun p hp => by
      have e : p = (a, base) := by simpa using hp
      subst e; exact ⟨h, by simp⟩⟩
  | c :: l, base, a, h => by
    by_cases hc : c = 10
    · obtain ⟨P, h0, h1, h2⟩ := spans_cut l (base + 1) (base + 1) (Nat.le_refl _)
      refine ⟨(a, base) :: P, by simp, fun r => ?_, fun p hp => ?_⟩
      · rw [List.cons_append, spansFrom, if_pos hc, h1 r, List.length_cons, show base + 1 + l.length + 1 = base + (l.length + 1) + 1 from by omega]; rfl
      · rcases List.mem_cons.1 hp with rfl | hp
        · exact ⟨h, by simp⟩
        · have := h2 p hp
          simp only [List.length_cons]; omega
    · obtain ⟨P, h0, h1, h2⟩ := spans_cut l (base + 1) a (by omega)
      refine ⟨P, h0, fun r => ?_, fun p hp => ?_⟩
      · rw [List.cons_append, spansFrom, if_neg hc, h1 r, List.length_cons, show base + 1 + l.length + 1 = base + (l.length + 1) + 1 from by omega]
      · have := h2 p hp
        simp only [List.length_cons]; omega
theorem lineAt_low {a r r' : List UInt8} {p : Nat × Nat} (h2 : p.2 ≤ a.length) : lineAt (a ++ 10 :: r) p = lineAt (a ++ 10 :: r') p := by
  unfold lineAt
  simp only [List.length_append, List.length_cons]
  rw [if_neg (show ¬ p.2 = a.length + (r.length + 1) by omega), if_neg (show ¬ p.2 = a.length + (r'.length + 1) by omega)]
  by_cases hp : p.1 < p.2
  · have hi : ∀ q : List UInt8, (a ++ 10 :: q)[p.2 - 1]? = a[p.2 - 1]? := fun q => List.getElem?_append_left (by omega)
    rw [hi, hi]
  · rw [if_neg (fun h => hp h.1), if_neg (fun h => hp h.1)]
theorem lineAt_high (a b : List UInt8) (p : Nat × Nat) : lineAt (a ++ 10 :: b) (shift2 (a.length + 1) p) = shift3 (a.length + 1) (lineAt b p) := by
  unfold lineAt shift2 shift3
  simp only [List.length_append, List.length_cons]
  by_cases he : p.2 = b.length
  · rw [if_pos (by omega), if_pos he]
  · rw [if_neg (by omega), if_neg he]
    by_cases hp : p.1 < p.2
    · have hi : (a ++ 10 :: b)[p.2 + (a.length + 1) - 1]? = b[p.2 - 1]? := by
        rw [List.getElem?_append_right (by omega), show p.2 + (a.length + 1) - 1 - a.length = (p.2 - 1) + 1 from by omega, List.getElem?_cons_succ]
      rw [hi]
      by_cases h13 : b[p.2 - 1]? = some 13
      · rw [if_pos ⟨by omega, h13⟩, if_pos ⟨hp, h13⟩]
        refine Prod.ext rfl (Prod.ext ?_ ?_) <;> simp only <;> omega
      · rw [if_neg (fun h => h13 h.2), if_neg (fun h => h13 h.2)]
        refine Prod.ext rfl (Prod.ext rfl ?_); simp only; omega
    · rw [if_neg (fun h => hp (by have := h.1; omega)), if_neg (fun h => hp h.1)]
      refine Prod.ext rfl (Prod.ext rfl ?_); simp only; omega
theorem takeWhile_map' {α β : Type} {f : α → β} {p : β → Bool} {q : α → Bool} (h : ∀ x, p (f x) = q x) : ∀ l : List α, (l.map f).takeWhile p = (l.takeWhile q).map f
  | [] => rfl
  | x :: l => by
    rw [List.map_cons, List.takeWhile_cons, List.takeWhile_cons, h x]
    split
    · rw [takeWhile_map' h l]; rfl
    · rfl
theorem lines_join (a b : List UInt8) : lines (a ++ 10 :: b) = lines (a ++ [10]) ++ (lines b).map (shift3 (a.length + 1)) ∧ 0 < (lines (a ++ [10])).length := by
  obtain ⟨P, h0, h1, h2⟩ := spans_cut a 0 0 (Nat.le_refl _)
  simp only [Nat.zero_add] at h1 h2
  have e1 : spans (a ++ 10 :: b) = P ++ (spans b).map (shift2 (a.length + 1)) := by
    rw [show spans (a ++ 10 :: b) = spansFrom (a ++ 10 :: b) 0 0 from rfl, h1 b]
    have := spans_shift (a.length + 1) b 0 0
    rw [Nat.zero_add] at this
    rw [this]; rfl
  have e2 : spans (a ++ [10]) = P ++ [(a.length + 1, a.length + 1)] := by
    rw [show spans (a ++ [10]) = spansFrom (a ++ 10 :: []) 0 0 from rfl, h1 []]; rfl
  have l2 : lines (a ++ [10]) = P.map (lineAt (a ++ [10])) := by
    unfold lines
    rw [e2, takeWhile_all (fun p hp => by have := h2 p hp; simp; omega)]
    simp
  constructor
  · rw [l2]
    unfold lines
    rw [e1, takeWhile_all (fun p hp => by have := h2 p hp; simp; omega), List.map_append]
    congr 1
    · exact List.map_congr_left fun p hp => lineAt_low (h2 p hp).2
    · rw [takeWhile_map' (q := fun p => p.1 != b.length) (fun p => by
          rw [Bool.eq_iff_iff, bne_iff_ne, bne_iff_ne]
          simp only [shift2, List.length_append, List.length_cons]; omega), List.map_map, List.map_map]
      exact List.map_congr_left fun p _ => lineAt_high a b p
  · rw [l2, List.length_map]
    exact List.length_pos_iff.2 h0
end Go.Cur
/- Plain facts on words that are put together with blanks between; no program. -/
namespace Go.Wds
/-- The bytes from p up to q. -/
def tx (l : List UInt8) (p q : Nat) : List UInt8 := (l.drop p).take (q - p)
theorem tx_append {l r : List UInt8} {p q : Nat} (hq : q ≤ l.length) : tx (l ++ r) p q = tx l p q := by
  unfold tx
  by_cases h : p ≤ q
  · rw [List.drop_append_of_le_length (by omega), List.take_append_of_le_length (by simp; omega)]
  · rw [show q - p = 0 from by omega, List.take_zero, List.take_zero]
theorem tx_mid (l w r : List UInt8) : tx (l ++ w ++ r) l.length (l.length + w.length) = w := by
  unfold tx
  rw [List.append_assoc, List.drop_left, Nat.add_sub_cancel_left, List.take_left]
/-- A word more at the end of a text that ends in a blank. -/
theorem runs_snoc {l w z : List UInt8} (hl : ∀ x, l[l.length - 1]? = some x → blk x = true) (hw : ∀ x ∈ w, blk x = false) (hw0 : w ≠ []) (hz : ∀ x ∈ z, blk x = true) (hz0 : z ≠ []) :
    ∀ (qs : List (Nat × Nat)) (a : Nat), a ≤ l.length → Runs l l.length a qs → Runs (l ++ w ++ z) (l ++ w ++ z).length a (qs ++ [(l.length, l.length + w.length)])
  | [], a, ha, h => by
    have hwl : 0 < w.length := List.length_pos_iff.2 hw0
    have hzl : 0 < z.length := List.length_pos_iff.2 hz0
    refine ⟨ha, by omega, by simp, fun j x h1 h2 h3 => ?_, fun j x h1 h2 h3 => ?_, fun h1 x h2 => ?_, fun j x h1 h2 h3 => ?_⟩
    · rw [List.append_assoc, List.getElem?_append_left h2] at h3
      exact h j x h1 h2 h3
    · rw [List.append_assoc, List.getElem?_append_right h1, List.getElem?_append_left (by omega)] at h3
      exact hw x (List.mem_of_getElem? h3)
    · rw [List.getElem?_append_right (by simp)] at h2
      exact hz x (List.mem_of_getElem? h2)
    · rw [List.getElem?_append_right (by simp; omega)] at h3
      exact hz x (List.mem_of_getElem? h3)
  | (p, q) :: qs, a, ha, h => by
    obtain ⟨h1, h2, h3, h4, h5, h6, h7⟩ := h
    have hql : q < l.length := by
      rcases Nat.lt_or_ge q l.length with h | h
      · exact h
      · obtain ⟨x, hx⟩ := at_len (l := l) (j := l.length - 1) (by omega)
        have e1 := hl x hx
        rw [h5 (l.length - 1) x (by omega) (by omega) hx] at e1
        cases e1
    refine ⟨h1, h2, by simp; omega, fun j x i1 i2 i3 => ?_, fun j x i1 i2 i3 => ?_, fun _ x i2 => ?_, runs_snoc hl hw hw0 hz hz0 qs q h3 h7⟩
    · rw [List.append_assoc, List.getElem?_append_left (by omega)] at i3
      exact h4 j x i1 i2 i3
    · rw [List.append_assoc, List.getElem?_append_left (by omega)] at i3
      exact h5 j x i1 i2 i3
    · rw [List.append_assoc, List.getElem?_append_left hql] at i2
      exact h6 hql x i2

/-- t is the first i of the words ps of l, put together; in it they are qs. -/
def Built (l : List UInt8) (ps : List (Nat × Nat)) (i : Nat) (t : List UInt8) (qs : List (Nat × Nat)) : Prop :=
  qs.length = i ∧ Runs t t.length 0 qs ∧ (∀ x, t[t.length - 1]? = some x → blk x = true) ∧ 0 < t.length ∧
  ∀ j p q, j < i → ps[j]? = some (p, q) → ∃ p' q', qs[j]? = some (p', q') ∧ p' ≤ q' ∧ q' ≤ t.length ∧ tx t p' q' = tx l p q
theorem built_start (l : List UInt8) (ps : List (Nat × Nat)) : Built l ps 0 [9] [] := by
  refine ⟨rfl, fun j x h1 h2 h3 => ?_, fun x hx => ?_, by simp, fun j p q h => by omega⟩
  · have e : j = 0 := by simp at h2; omega
    subst e
    cases h3; rfl
  · cases hx; rfl
theorem built_step {l : List UInt8} {ps qs : List (Nat × Nat)} {i p q : Nat} {t z : List UInt8} (h : Built l ps i t qs) (hp : ps[i]? = some (p, q)) (hpq : p < q) (hq : q ≤ l.length) (hi : Ink l p q) (hz : ∀ x ∈ z, blk x = true) (hz0 : z ≠ []) :
    Built l ps (i + 1) (t ++ tx l p q ++ z) (qs ++ [(t.length, t.length + (q - p))]) := by
  obtain ⟨h1, h2, h3, h4, h5⟩ := h
  have hwl : (tx l p q).length = q - p := by unfold tx; simp; omega
  have hw : ∀ x ∈ tx l p q, blk x = false := fun x hx => by
    obtain ⟨j, hj⟩ := List.mem_iff_getElem?.1 hx
    have hjl : j < q - p := by have := (List.getElem?_eq_some_iff.1 hj).1; omega
    unfold tx at hj
    rw [List.getElem?_take_of_lt hjl, List.getElem?_drop] at hj
    exact hi _ x (by omega) (by omega) hj
  have hw0 : tx l p q ≠ [] := fun e => by rw [e] at hwl; simp at hwl; omega
  have hr := runs_snoc h3 hw hw0 hz hz0 qs 0 (Nat.zero_le _) h2
  rw [hwl] at hr
  refine ⟨by simp [h1], hr, fun x hx => ?_, by simp; omega, fun j a b hj hab => ?_⟩
  · have hzl : 0 < z.length := List.length_pos_iff.2 hz0
    rw [List.getElem?_append_right (by simp; omega)] at hx
    exact hz x (List.mem_of_getElem? hx)
  · by_cases e : j = i
    · subst e
      rw [hp] at hab
      cases hab
      refine ⟨t.length, t.length + (q - p), by rw [List.getElem?_append_right (by omega), h1, Nat.sub_self]; rfl, by omega, by simp; omega, ?_⟩
      rw [← hwl]
      exact tx_mid _ _ _
    · obtain ⟨p', q', g1, g2, g3, g4⟩ := h5 j a b (by omega) hab
      refine ⟨p', q', by rw [List.getElem?_append_left (by omega)]; exact g1, g2, by simp; omega, ?_⟩
      rw [List.append_assoc, tx_append g3]
      exact g4
theorem built_end {l : List UInt8} {ps qs : List (Nat × Nat)} {t : List UInt8} (h : Built l ps ps.length t qs) : wordsL t 0 t.length = qs :=
  runs_eq (Nat.le_refl _) (runs_of (Nat.zero_le _) (Nat.le_refl _)) h.2.1

/-- Words, one by one: what stands ahead of the word m ends at a. -/
def Ahead (l : List UInt8) (ps : List (Nat × Nat)) (m a : Nat) : Prop := m ≤ ps.length → Runs l l.length a (ps.drop m)
theorem ahead_step {l : List UInt8} {ps : List (Nat × Nat)} {m a p q : Nat} (h : Ahead l ps m a) (hp : ps[m]? = some (p, q)) :
    a ≤ p ∧ p < q ∧ q ≤ l.length ∧ Ink l p q ∧ Ahead l ps (m + 1) q := by
  obtain ⟨hm, e⟩ := List.getElem?_eq_some_iff.1 hp
  have h1 := h (by omega)
  rw [List.drop_eq_getElem_cons hm, e] at h1
  obtain ⟨g1, g2, g3, g4, g5, g6, g7⟩ := h1
  exact ⟨g1, g2, g3, g5, fun _ => g7⟩
/-- Each word has a byte. -/
theorem runs_pos {l : List UInt8} {b : Nat} : ∀ {ps : List (Nat × Nat)} {a : Nat}, Runs l b a ps → ∀ {i p q : Nat}, ps[i]? = some (p, q) → p < q ∧ q ≤ b
  | [], a, h, i, p, q, hp => by simp at hp
  | (p', q') :: ps, a, h, 0, p, q, hp => by
    simp at hp
    obtain ⟨rfl, rfl⟩ := hp
    exact ⟨h.2.1, h.2.2.1⟩
  | (p', q') :: ps, a, h, i + 1, p, q, hp => runs_pos h.2.2.2.2.2.2 (by simpa using hp)
end Go.Wds
