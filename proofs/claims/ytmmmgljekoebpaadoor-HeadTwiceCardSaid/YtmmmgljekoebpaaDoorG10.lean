/- The landed head's May. Conditions: the tables of keywords hold what the card lays; the name is no longer than two million bytes. -/
import Derived.Test.YtmmmgljekoebpaaDoorG08
import Derived.Test.YtmmmgljekoebpaaDoorG01
import Derived.Test.YtmmmgljekoebpaaDoorG07
namespace Go.Hdr
open Go.Metric Go.Layout Go.Wds
theorem kwK_some (k : Int) : (¬ kwK k = ⟨#[]⟩) ↔ (k = 1 ∨ k = 2) := by
  unfold kwK hkTsp hkCvrp
  by_cases h1 : k = 1
  · subst h1; decide +kernel
  by_cases h2 : k = 2
  · subst h2; decide +kernel
  rw [if_neg h1, if_neg h2]
  exact ⟨fun h => absurd rfl h, fun h => by omega⟩
theorem kwS_some (k : Int) : (¬ kwS k = ⟨#[]⟩) ↔ (0 ≤ k ∧ k ≤ 5) := by
  by_cases h : 0 ≤ k ∧ k ≤ 5
  · rcases (show k = 0 ∨ k = 1 ∨ k = 2 ∨ k = 3 ∨ k = 4 ∨ k = 5 by omega) with rfl | rfl | rfl | rfl | rfl | rfl <;> decide +kernel
  · unfold kwS
    rw [if_neg (by omega), if_neg (by omega), if_neg (by omega), if_neg (by omega), if_neg (by omega), if_neg (by omega)]
    exact ⟨fun h => absurd rfl h, fun h => by omega⟩
theorem lkwS_some (k : Int) : (¬ lkwS k = ⟨#[]⟩) ↔ (1 ≤ k ∧ k ≤ 7) := by
  by_cases h : 1 ≤ k ∧ k ≤ 7
  · rcases (show k = 1 ∨ k = 2 ∨ k = 3 ∨ k = 4 ∨ k = 5 ∨ k = 6 ∨ k = 7 by omega) with rfl | rfl | rfl | rfl | rfl | rfl | rfl <;> decide +kernel
  · rw [lkwS_none h]
    exact ⟨fun h => absurd rfl h, fun h => by omega⟩
theorem mayH_is (h : Hd) : mayH h = (nameL h.name.data.toList && (!decide (kwK h.kind = ⟨#[]⟩) && (decide (1 ≤ h.dim ∧ h.dim ≤ 400) && (capB h && (!decide (kwS h.met = ⟨#[]⟩) && layB h))))) := by
  have e1 : (!decide (kwK h.kind = ⟨#[]⟩)) = decide (h.kind = 1 ∨ h.kind = 2) := by rw [← decide_not]; exact decide_eq_decide.2 (kwK_some _)
  have e2 : (!decide (kwS h.met = ⟨#[]⟩)) = decide (0 ≤ h.met ∧ h.met ≤ 5) := by rw [← decide_not]; exact decide_eq_decide.2 (kwS_some _)
  have e3 : decide (¬ lkwS h.lay = ⟨#[]⟩) = decide (1 ≤ h.lay ∧ h.lay ≤ 7) := decide_eq_decide.2 (lkwS_some _)
  rw [e1, e2]
  unfold mayH capB layB
  rw [e3]
  cases nameL h.name.data.toList
  · rfl
  · obtain ⟨nm, k, d, c, m, l⟩ := h
    dsimp only
    by_cases hk : k = 2 <;> by_cases hm : m = 0 <;> (first | rw [if_pos hk] | rw [if_neg hk]) <;> (first | rw [if_pos hm] | rw [if_neg hm]) <;> rw [Bool.eq_iff_iff] <;> simp only [Bool.true_and, Bool.and_eq_true, decide_eq_true_eq] <;> omega
end Go.Hdr
namespace Go.Proofs
open Go.RowKit Go.Shelf Go.Hdr Go.Fx Go.Wds Go.Metric Go.Layout
attribute [local go_sem] Oper.semAt_some
set_option linter.unusedVariables false
set_option maxRecDepth 100000 in
set_option maxHeartbeats 4000000 in
theorem Tryd.hmay_calls (h : Hd) (w : World) (hs : h.name.size ≤ 2000000) (hK : KeyTab w) (hL : LayTab w) :
    Calls Tryd.prog 10 #[hdV h] w fun e w' => e = .returned (.bool (mayH h)) ∧ Below w.heap.size w w' := by
  have RN := fun w => Tryd.Name_calls h.name w hs
  have RC := fun w => Tryd.capFits_calls h w
  have RL := fun w hl => Tryd.layFits_calls h w hl
  have RK := fun w => Tryd.kwK_calls h.kind w
  have RM := fun w hk => Tryd.Keyword_calls h.met w hk
  have RD := fun w => Tryd.within_calls h.dim 400 w
  have HV := mayH_is h
  have TK := Lib.hid fun W (h : Below w.heap.size w W) => hK.below h
  have TL := Lib.hid fun W (h : Below w.heap.size w W) => hL.below h
  clear hK hL
  generalize mayH h = r at *
  generalize capB h = q4 at *
  generalize layB h = q6 at *
  obtain ⟨nm, k, d, c, m, l⟩ := h
  unfold hdV at *
  dsimp only at RN RK RM RD HV hs
  have e2 := htext_beq (kwK k) []
  have e5 := htext_beq (kwS m) []
  rw [show (⟨([] : List UInt8).toArray⟩ : ByteArray) = ⟨#[]⟩ from rfl] at e2 e5
  have f2 : ((kwK k).toList != []) = !decide (kwK k = ⟨#[]⟩) := by rw [bne, e2]
  have f5 : ((kwS m).toList != []) = !decide (kwS m = ⟨#[]⟩) := by rw [bne, e5]
  generalize decide (kwK k = ⟨#[]⟩) = q2 at *
  generalize decide (kwS m = ⟨#[]⟩) = q5 at *
  generalize decide (1 ≤ d ∧ d ≤ 400) = q3 at *
  generalize nameL nm.data.toList = q1 at *
  generalize kwK k = t2 at *
  generalize kwS m = t5 at *
  have HRN := Lib.hid RN
  have HRC := Lib.hid RC
  have HRL := Lib.hid RL
  have HRK := Lib.hid RK
  have HRM := Lib.hid RM
  have HRD := Lib.hid RD
  have HV := Lib.hid HV
  clear RN RC RL RK RM RD
  cases q1
  · skip
    go_enter Tryd.func10, Tryd.ntmps10
    go_wp2_with (first
        | (go_at_call 17; (with_reducible refine (HRN.out _).mono ?_); rintro e w1 ⟨rfl, hw1⟩; have HX1 := hbox_next (World.alloc_heap_new w (.cells #[.string nm, .int .i64 k, .int .i64 d, .int .i64 c, .int .i64 m, .int .i64 l] 23)) hw1; have HB1 := Lib.hid (hstep (below_one_h w (.cells #[.string nm, .int .i64 k, .int .i64 d, .int .i64 c, .int .i64 m, .int .i64 l] 23)) hw1); go_loud (have a0 : w1.cell? ⟨w.heap.size, 0, none⟩ = some (.string nm) := (hbox_cell HX1 0).1; have a1 : w1.cell? ⟨w.heap.size, 1, none⟩ = some (.int .i64 k) := (hbox_cell HX1 1).1; have a2 : w1.cell? ⟨w.heap.size, 2, none⟩ = some (.int .i64 d) := (hbox_cell HX1 2).1; have a3 : w1.cell? ⟨w.heap.size, 3, none⟩ = some (.int .i64 c) := (hbox_cell HX1 3).1; have a4 : w1.cell? ⟨w.heap.size, 4, none⟩ = some (.int .i64 m) := (hbox_cell HX1 4).1; have a5 : w1.cell? ⟨w.heap.size, 5, none⟩ = some (.int .i64 l) := (hbox_cell HX1 5).1; have la := hbox_lt HX1); have HX1 := Lib.hid HX1; clear hw1)
        | (go_at_call 18; (with_reducible refine (HRK.out _).mono ?_); rintro e w9 ⟨rfl, hw9⟩; subst hw9)
        | (go_at_call 19; (with_reducible refine (HRD.out _).mono ?_); rintro e w9 ⟨rfl, hw9⟩; subst hw9)
        | (go_at_call 20; (with_reducible refine (HRC.out _).mono ?_); rintro e w2 ⟨rfl, hw2⟩; have HX2 := hbox_next HX1.out hw2; have HB2 := Lib.hid (hstep HB1.out hw2); go_loud (have b0 : w2.cell? ⟨w.heap.size, 0, none⟩ = some (.string nm) := (hbox_cell HX2 0).1; have b1 : w2.cell? ⟨w.heap.size, 1, none⟩ = some (.int .i64 k) := (hbox_cell HX2 1).1; have b2 : w2.cell? ⟨w.heap.size, 2, none⟩ = some (.int .i64 d) := (hbox_cell HX2 2).1; have b3 : w2.cell? ⟨w.heap.size, 3, none⟩ = some (.int .i64 c) := (hbox_cell HX2 3).1; have b4 : w2.cell? ⟨w.heap.size, 4, none⟩ = some (.int .i64 m) := (hbox_cell HX2 4).1; have b5 : w2.cell? ⟨w.heap.size, 5, none⟩ = some (.int .i64 l) := (hbox_cell HX2 5).1; have lb := hbox_lt HX2); have HX2 := Lib.hid HX2; clear hw2)
        | (go_at_call 21; (with_reducible refine (HRM.out _ (TK.out _ HB2.out)).mono ?_); rintro e w9 ⟨rfl, hw9⟩; subst hw9)
        | (go_at_call 22; (with_reducible refine (HRL.out _ (TL.out _ HB2.out)).mono ?_); rintro e w3 ⟨rfl, hw3⟩; have HB3 := Lib.hid (hstep HB2.out hw3); clear hw3))
    go_ret
    exact ⟨by rw [HV.out]; rfl, HB1.out⟩
  cases q2
  case true =>
    go_enter Tryd.func10, Tryd.ntmps10
    go_wp2_with (first
        | (go_at_call 17; (with_reducible refine (HRN.out _).mono ?_); rintro e w1 ⟨rfl, hw1⟩; have HX1 := hbox_next (World.alloc_heap_new w (.cells #[.string nm, .int .i64 k, .int .i64 d, .int .i64 c, .int .i64 m, .int .i64 l] 23)) hw1; have HB1 := Lib.hid (hstep (below_one_h w (.cells #[.string nm, .int .i64 k, .int .i64 d, .int .i64 c, .int .i64 m, .int .i64 l] 23)) hw1); go_loud (have a0 : w1.cell? ⟨w.heap.size, 0, none⟩ = some (.string nm) := (hbox_cell HX1 0).1; have a1 : w1.cell? ⟨w.heap.size, 1, none⟩ = some (.int .i64 k) := (hbox_cell HX1 1).1; have a2 : w1.cell? ⟨w.heap.size, 2, none⟩ = some (.int .i64 d) := (hbox_cell HX1 2).1; have a3 : w1.cell? ⟨w.heap.size, 3, none⟩ = some (.int .i64 c) := (hbox_cell HX1 3).1; have a4 : w1.cell? ⟨w.heap.size, 4, none⟩ = some (.int .i64 m) := (hbox_cell HX1 4).1; have a5 : w1.cell? ⟨w.heap.size, 5, none⟩ = some (.int .i64 l) := (hbox_cell HX1 5).1; have la := hbox_lt HX1); have HX1 := Lib.hid HX1; clear hw1)
        | (go_at_call 18; (with_reducible refine (HRK.out _).mono ?_); rintro e w9 ⟨rfl, hw9⟩; subst hw9)
        | (go_at_call 19; (with_reducible refine (HRD.out _).mono ?_); rintro e w9 ⟨rfl, hw9⟩; subst hw9)
        | (go_at_call 20; (with_reducible refine (HRC.out _).mono ?_); rintro e w2 ⟨rfl, hw2⟩; have HX2 := hbox_next HX1.out hw2; have HB2 := Lib.hid (hstep HB1.out hw2); go_loud (have b0 : w2.cell? ⟨w.heap.size, 0, none⟩ = some (.string nm) := (hbox_cell HX2 0).1; have b1 : w2.cell? ⟨w.heap.size, 1, none⟩ = some (.int .i64 k) := (hbox_cell HX2 1).1; have b2 : w2.cell? ⟨w.heap.size, 2, none⟩ = some (.int .i64 d) := (hbox_cell HX2 2).1; have b3 : w2.cell? ⟨w.heap.size, 3, none⟩ = some (.int .i64 c) := (hbox_cell HX2 3).1; have b4 : w2.cell? ⟨w.heap.size, 4, none⟩ = some (.int .i64 m) := (hbox_cell HX2 4).1; have b5 : w2.cell? ⟨w.heap.size, 5, none⟩ = some (.int .i64 l) := (hbox_cell HX2 5).1; have lb := hbox_lt HX2); have HX2 := Lib.hid HX2; clear hw2)
        | (go_at_call 21; (with_reducible refine (HRM.out _ (TK.out _ HB2.out)).mono ?_); rintro e w9 ⟨rfl, hw9⟩; subst hw9)
        | (go_at_call 22; (with_reducible refine (HRL.out _ (TL.out _ HB2.out)).mono ?_); rintro e w3 ⟨rfl, hw3⟩; have HB3 := Lib.hid (hstep HB2.out hw3); clear hw3))
    go_ret
    exact ⟨by rw [HV.out]; rfl, HB1.out⟩
  cases q3
  · skip
    go_enter Tryd.func10, Tryd.ntmps10
    go_wp2_with (first
        | (go_at_call 17; (with_reducible refine (HRN.out _).mono ?_); rintro e w1 ⟨rfl, hw1⟩; have HX1 := hbox_next (World.alloc_heap_new w (.cells #[.string nm, .int .i64 k, .int .i64 d, .int .i64 c, .int .i64 m, .int .i64 l] 23)) hw1; have HB1 := Lib.hid (hstep (below_one_h w (.cells #[.string nm, .int .i64 k, .int .i64 d, .int .i64 c, .int .i64 m, .int .i64 l] 23)) hw1); go_loud (have a0 : w1.cell? ⟨w.heap.size, 0, none⟩ = some (.string nm) := (hbox_cell HX1 0).1; have a1 : w1.cell? ⟨w.heap.size, 1, none⟩ = some (.int .i64 k) := (hbox_cell HX1 1).1; have a2 : w1.cell? ⟨w.heap.size, 2, none⟩ = some (.int .i64 d) := (hbox_cell HX1 2).1; have a3 : w1.cell? ⟨w.heap.size, 3, none⟩ = some (.int .i64 c) := (hbox_cell HX1 3).1; have a4 : w1.cell? ⟨w.heap.size, 4, none⟩ = some (.int .i64 m) := (hbox_cell HX1 4).1; have a5 : w1.cell? ⟨w.heap.size, 5, none⟩ = some (.int .i64 l) := (hbox_cell HX1 5).1; have la := hbox_lt HX1); have HX1 := Lib.hid HX1; clear hw1)
        | (go_at_call 18; (with_reducible refine (HRK.out _).mono ?_); rintro e w9 ⟨rfl, hw9⟩; subst hw9)
        | (go_at_call 19; (with_reducible refine (HRD.out _).mono ?_); rintro e w9 ⟨rfl, hw9⟩; subst hw9)
        | (go_at_call 20; (with_reducible refine (HRC.out _).mono ?_); rintro e w2 ⟨rfl, hw2⟩; have HX2 := hbox_next HX1.out hw2; have HB2 := Lib.hid (hstep HB1.out hw2); go_loud (have b0 : w2.cell? ⟨w.heap.size, 0, none⟩ = some (.string nm) := (hbox_cell HX2 0).1; have b1 : w2.cell? ⟨w.heap.size, 1, none⟩ = some (.int .i64 k) := (hbox_cell HX2 1).1; have b2 : w2.cell? ⟨w.heap.size, 2, none⟩ = some (.int .i64 d) := (hbox_cell HX2 2).1; have b3 : w2.cell? ⟨w.heap.size, 3, none⟩ = some (.int .i64 c) := (hbox_cell HX2 3).1; have b4 : w2.cell? ⟨w.heap.size, 4, none⟩ = some (.int .i64 m) := (hbox_cell HX2 4).1; have b5 : w2.cell? ⟨w.heap.size, 5, none⟩ = some (.int .i64 l) := (hbox_cell HX2 5).1; have lb := hbox_lt HX2); have HX2 := Lib.hid HX2; clear hw2)
        | (go_at_call 21; (with_reducible refine (HRM.out _ (TK.out _ HB2.out)).mono ?_); rintro e w9 ⟨rfl, hw9⟩; subst hw9)
        | (go_at_call 22; (with_reducible refine (HRL.out _ (TL.out _ HB2.out)).mono ?_); rintro e w3 ⟨rfl, hw3⟩; have HB3 := Lib.hid (hstep HB2.out hw3); clear hw3))
    go_ret
    exact ⟨by rw [HV.out]; rfl, HB1.out⟩
  cases q4
  · skip
    go_enter Tryd.func10, Tryd.ntmps10
    go_wp2_with (first
        | (go_at_call 17; (with_reducible refine (HRN.out _).mono ?_); rintro e w1 ⟨rfl, hw1⟩; have HX1 := hbox_next (World.alloc_heap_new w (.cells #[.string nm, .int .i64 k, .int .i64 d, .int .i64 c, .int .i64 m, .int .i64 l] 23)) hw1; have HB1 := Lib.hid (hstep (below_one_h w (.cells #[.string nm, .int .i64 k, .int .i64 d, .int .i64 c, .int .i64 m, .int .i64 l] 23)) hw1); go_loud (have a0 : w1.cell? ⟨w.heap.size, 0, none⟩ = some (.string nm) := (hbox_cell HX1 0).1; have a1 : w1.cell? ⟨w.heap.size, 1, none⟩ = some (.int .i64 k) := (hbox_cell HX1 1).1; have a2 : w1.cell? ⟨w.heap.size, 2, none⟩ = some (.int .i64 d) := (hbox_cell HX1 2).1; have a3 : w1.cell? ⟨w.heap.size, 3, none⟩ = some (.int .i64 c) := (hbox_cell HX1 3).1; have a4 : w1.cell? ⟨w.heap.size, 4, none⟩ = some (.int .i64 m) := (hbox_cell HX1 4).1; have a5 : w1.cell? ⟨w.heap.size, 5, none⟩ = some (.int .i64 l) := (hbox_cell HX1 5).1; have la := hbox_lt HX1); have HX1 := Lib.hid HX1; clear hw1)
        | (go_at_call 18; (with_reducible refine (HRK.out _).mono ?_); rintro e w9 ⟨rfl, hw9⟩; subst hw9)
        | (go_at_call 19; (with_reducible refine (HRD.out _).mono ?_); rintro e w9 ⟨rfl, hw9⟩; subst hw9)
        | (go_at_call 20; (with_reducible refine (HRC.out _).mono ?_); rintro e w2 ⟨rfl, hw2⟩; have HX2 := hbox_next HX1.out hw2; have HB2 := Lib.hid (hstep HB1.out hw2); go_loud (have b0 : w2.cell? ⟨w.heap.size, 0, none⟩ = some (.string nm) := (hbox_cell HX2 0).1; have b1 : w2.cell? ⟨w.heap.size, 1, none⟩ = some (.int .i64 k) := (hbox_cell HX2 1).1; have b2 : w2.cell? ⟨w.heap.size, 2, none⟩ = some (.int .i64 d) := (hbox_cell HX2 2).1; have b3 : w2.cell? ⟨w.heap.size, 3, none⟩ = some (.int .i64 c) := (hbox_cell HX2 3).1; have b4 : w2.cell? ⟨w.heap.size, 4, none⟩ = some (.int .i64 m) := (hbox_cell HX2 4).1; have b5 : w2.cell? ⟨w.heap.size, 5, none⟩ = some (.int .i64 l) := (hbox_cell HX2 5).1; have lb := hbox_lt HX2); have HX2 := Lib.hid HX2; clear hw2)
        | (go_at_call 21; (with_reducible refine (HRM.out _ (TK.out _ HB2.out)).mono ?_); rintro e w9 ⟨rfl, hw9⟩; subst hw9)
        | (go_at_call 22; (with_reducible refine (HRL.out _ (TL.out _ HB2.out)).mono ?_); rintro e w3 ⟨rfl, hw3⟩; have HB3 := Lib.hid (hstep HB2.out hw3); clear hw3))
    go_ret
    exact ⟨by rw [HV.out]; rfl, HB2.out⟩
  cases q5
  case true =>
    go_enter Tryd.func10, Tryd.ntmps10
    go_wp2_with (first
        | (go_at_call 17; (with_reducible refine (HRN.out _).mono ?_); rintro e w1 ⟨rfl, hw1⟩; have HX1 := hbox_next (World.alloc_heap_new w (.cells #[.string nm, .int .i64 k, .int .i64 d, .int .i64 c, .int .i64 m, .int .i64 l] 23)) hw1; have HB1 := Lib.hid (hstep (below_one_h w (.cells #[.string nm, .int .i64 k, .int .i64 d, .int .i64 c, .int .i64 m, .int .i64 l] 23)) hw1); go_loud (have a0 : w1.cell? ⟨w.heap.size, 0, none⟩ = some (.string nm) := (hbox_cell HX1 0).1; have a1 : w1.cell? ⟨w.heap.size, 1, none⟩ = some (.int .i64 k) := (hbox_cell HX1 1).1; have a2 : w1.cell? ⟨w.heap.size, 2, none⟩ = some (.int .i64 d) := (hbox_cell HX1 2).1; have a3 : w1.cell? ⟨w.heap.size, 3, none⟩ = some (.int .i64 c) := (hbox_cell HX1 3).1; have a4 : w1.cell? ⟨w.heap.size, 4, none⟩ = some (.int .i64 m) := (hbox_cell HX1 4).1; have a5 : w1.cell? ⟨w.heap.size, 5, none⟩ = some (.int .i64 l) := (hbox_cell HX1 5).1; have la := hbox_lt HX1); have HX1 := Lib.hid HX1; clear hw1)
        | (go_at_call 18; (with_reducible refine (HRK.out _).mono ?_); rintro e w9 ⟨rfl, hw9⟩; subst hw9)
        | (go_at_call 19; (with_reducible refine (HRD.out _).mono ?_); rintro e w9 ⟨rfl, hw9⟩; subst hw9)
        | (go_at_call 20; (with_reducible refine (HRC.out _).mono ?_); rintro e w2 ⟨rfl, hw2⟩; have HX2 := hbox_next HX1.out hw2; have HB2 := Lib.hid (hstep HB1.out hw2); go_loud (have b0 : w2.cell? ⟨w.heap.size, 0, none⟩ = some (.string nm) := (hbox_cell HX2 0).1; have b1 : w2.cell? ⟨w.heap.size, 1, none⟩ = some (.int .i64 k) := (hbox_cell HX2 1).1; have b2 : w2.cell? ⟨w.heap.size, 2, none⟩ = some (.int .i64 d) := (hbox_cell HX2 2).1; have b3 : w2.cell? ⟨w.heap.size, 3, none⟩ = some (.int .i64 c) := (hbox_cell HX2 3).1; have b4 : w2.cell? ⟨w.heap.size, 4, none⟩ = some (.int .i64 m) := (hbox_cell HX2 4).1; have b5 : w2.cell? ⟨w.heap.size, 5, none⟩ = some (.int .i64 l) := (hbox_cell HX2 5).1; have lb := hbox_lt HX2); have HX2 := Lib.hid HX2; clear hw2)
        | (go_at_call 21; (with_reducible refine (HRM.out _ (TK.out _ HB2.out)).mono ?_); rintro e w9 ⟨rfl, hw9⟩; subst hw9)
        | (go_at_call 22; (with_reducible refine (HRL.out _ (TL.out _ HB2.out)).mono ?_); rintro e w3 ⟨rfl, hw3⟩; have HB3 := Lib.hid (hstep HB2.out hw3); clear hw3))
    go_ret
    exact ⟨by rw [HV.out]; rfl, HB2.out⟩
  go_enter Tryd.func10, Tryd.ntmps10
  go_wp2_with (first
      | (go_at_call 17; (with_reducible refine (HRN.out _).mono ?_); rintro e w1 ⟨rfl, hw1⟩; have HX1 := hbox_next (World.alloc_heap_new w (.cells #[.string nm, .int .i64 k, .int .i64 d, .int .i64 c, .int .i64 m, .int .i64 l] 23)) hw1; have HB1 := Lib.hid (hstep (below_one_h w (.cells #[.string nm, .int .i64 k, .int .i64 d, .int .i64 c, .int .i64 m, .int .i64 l] 23)) hw1); go_loud (have a0 : w1.cell? ⟨w.heap.size, 0, none⟩ = some (.string nm) := (hbox_cell HX1 0).1; have a1 : w1.cell? ⟨w.heap.size, 1, none⟩ = some (.int .i64 k) := (hbox_cell HX1 1).1; have a2 : w1.cell? ⟨w.heap.size, 2, none⟩ = some (.int .i64 d) := (hbox_cell HX1 2).1; have a3 : w1.cell? ⟨w.heap.size, 3, none⟩ = some (.int .i64 c) := (hbox_cell HX1 3).1; have a4 : w1.cell? ⟨w.heap.size, 4, none⟩ = some (.int .i64 m) := (hbox_cell HX1 4).1; have a5 : w1.cell? ⟨w.heap.size, 5, none⟩ = some (.int .i64 l) := (hbox_cell HX1 5).1; have la := hbox_lt HX1); have HX1 := Lib.hid HX1; clear hw1)
      | (go_at_call 18; (with_reducible refine (HRK.out _).mono ?_); rintro e w9 ⟨rfl, hw9⟩; subst hw9)
      | (go_at_call 19; (with_reducible refine (HRD.out _).mono ?_); rintro e w9 ⟨rfl, hw9⟩; subst hw9)
      | (go_at_call 20; (with_reducible refine (HRC.out _).mono ?_); rintro e w2 ⟨rfl, hw2⟩; have HX2 := hbox_next HX1.out hw2; have HB2 := Lib.hid (hstep HB1.out hw2); go_loud (have b0 : w2.cell? ⟨w.heap.size, 0, none⟩ = some (.string nm) := (hbox_cell HX2 0).1; have b1 : w2.cell? ⟨w.heap.size, 1, none⟩ = some (.int .i64 k) := (hbox_cell HX2 1).1; have b2 : w2.cell? ⟨w.heap.size, 2, none⟩ = some (.int .i64 d) := (hbox_cell HX2 2).1; have b3 : w2.cell? ⟨w.heap.size, 3, none⟩ = some (.int .i64 c) := (hbox_cell HX2 3).1; have b4 : w2.cell? ⟨w.heap.size, 4, none⟩ = some (.int .i64 m) := (hbox_cell HX2 4).1; have b5 : w2.cell? ⟨w.heap.size, 5, none⟩ = some (.int .i64 l) := (hbox_cell HX2 5).1; have lb := hbox_lt HX2); have HX2 := Lib.hid HX2; clear hw2)
      | (go_at_call 21; (with_reducible refine (HRM.out _ (TK.out _ HB2.out)).mono ?_); rintro e w9 ⟨rfl, hw9⟩; subst hw9)
      | (go_at_call 22; (with_reducible refine (HRL.out _ (TL.out _ HB2.out)).mono ?_); rintro e w3 ⟨rfl, hw3⟩; have HB3 := Lib.hid (hstep HB2.out hw3); clear hw3))
  go_ret
  exact ⟨by rw [HV.out]; rfl, HB3.out⟩
#print axioms Tryd.hmay_calls
end Go.Proofs
