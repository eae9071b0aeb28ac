/- The document's own answers for layout.Keyword and layout.Of. Conditions: none. -/
import Derived.Test.YtipajbcamdcnkaaDoorLayoutRef
import Derived.Lib.Strings
namespace Go.Layout
def lk1 : ByteArray := ⟨#[70, 85, 76, 76, 95, 77, 65, 84, 82, 73, 88]⟩
def lk2 : ByteArray := ⟨#[85, 80, 80, 69, 82, 95, 82, 79, 87]⟩
def lk3 : ByteArray := ⟨#[76, 79, 87, 69, 82, 95, 82, 79, 87]⟩
def lk4 : ByteArray := ⟨#[85, 80, 80, 69, 82, 95, 68, 73, 65, 71, 95, 82, 79, 87]⟩
def lk5 : ByteArray := ⟨#[76, 79, 87, 69, 82, 95, 68, 73, 65, 71, 95, 82, 79, 87]⟩
def lk6 : ByteArray := ⟨#[85, 80, 80, 69, 82, 95, 67, 79, 76]⟩
def lk7 : ByteArray := ⟨#[76, 79, 87, 69, 82, 95, 67, 79, 76]⟩
/-- The keyword of a layout. -/
def lkwS (k : Int) : ByteArray := if k = 1 then lk1 else if k = 2 then lk2 else if k = 3 then lk3 else if k = 4 then lk4 else if k = 5 then lk5 else if k = 6 then lk6 else if k = 7 then lk7 else ⟨#[]⟩
theorem lkwS_none {k : Int} (h : ¬ (1 ≤ k ∧ k ≤ 7)) : lkwS k = ⟨#[]⟩ := by unfold lkwS; rw [if_neg (by omega), if_neg (by omega), if_neg (by omega), if_neg (by omega), if_neg (by omega), if_neg (by omega), if_neg (by omega)]
def lkAt : Nat → ByteArray
  | 1 => lk1
  | 2 => lk2
  | 3 => lk3
  | 4 => lk4
  | 5 => lk5
  | 6 => lk6
  | _ => lk7
/-- The layout that has a keyword, sought from a place on, the number of places left; 0, if none has it. -/
def lofFrom (s : ByteArray) : Nat → Nat → Int
  | _, 0 => 0
  | j, n + 1 => if lkAt j = s then (j : Int) else lofFrom s (j + 1) n
def lofR (s : ByteArray) : Int := lofFrom s 1 7
end Go.Layout
namespace Go.Proofs
open Go.RowKit Go.Shelf Go.Layout
attribute [local go_sem] Oper.semAt_some

theorem ltext_beq {l : List UInt8} {s : ByteArray} (h : ¬ (⟨l.toArray⟩ : ByteArray) = s) : (l == s.toList) = false := by
  rw [beq_eq_false_iff_ne, Lib.toList_data]
  intro e
  apply h
  subst e
  cases s
  simp

theorem Tryd.RLKeyword_calls (k : Int) (w : World) :
    Calls Tryd.prog 15 #[.int .i64 k] w fun e w' => e = .returned (.string (lkwS k)) ∧ w' = w := by
  by_cases hk : 1 ≤ k ∧ k ≤ 7
  · rcases (show k = 1 ∨ k = 2 ∨ k = 3 ∨ k = 4 ∨ k = 5 ∨ k = 6 ∨ k = 7 by omega) with rfl | rfl | rfl | rfl | rfl | rfl | rfl
    all_goals
      go_enter Tryd.func15, Tryd.ntmps15
      go_wp2
      go_ret
      exact ⟨rfl, rfl⟩
  · rw [lkwS_none hk]
    have d1 : (k == 1) = false := beq_eq_false_iff_ne.2 (by omega)
    have d2 : (k == 2) = false := beq_eq_false_iff_ne.2 (by omega)
    have d3 : (k == 3) = false := beq_eq_false_iff_ne.2 (by omega)
    have d4 : (k == 4) = false := beq_eq_false_iff_ne.2 (by omega)
    have d5 : (k == 5) = false := beq_eq_false_iff_ne.2 (by omega)
    have d6 : (k == 6) = false := beq_eq_false_iff_ne.2 (by omega)
    have d7 : (k == 7) = false := beq_eq_false_iff_ne.2 (by omega)
    go_enter Tryd.func15, Tryd.ntmps15
    go_wp2
    go_ret
    exact ⟨rfl, rfl⟩

set_option maxRecDepth 100000 in
set_option maxHeartbeats 1000000 in
theorem Tryd.RLOf_calls (s : ByteArray) (w : World) :
    Calls Tryd.prog 17 #[.string s] w fun e w' => e = .returned (.int .i64 (lofR s)) ∧ w' = w := by
  have R1 : ∀ w : World, Calls Tryd.prog 15 #[.int .i64 1] w fun e w' => e = .returned (.string ⟨#[70, 85, 76, 76, 95, 77, 65, 84, 82, 73, 88]⟩) ∧ w' = w := fun w => Tryd.RLKeyword_calls 1 w
  have R2 : ∀ w : World, Calls Tryd.prog 15 #[.int .i64 2] w fun e w' => e = .returned (.string ⟨#[85, 80, 80, 69, 82, 95, 82, 79, 87]⟩) ∧ w' = w := fun w => Tryd.RLKeyword_calls 2 w
  have R3 : ∀ w : World, Calls Tryd.prog 15 #[.int .i64 3] w fun e w' => e = .returned (.string ⟨#[76, 79, 87, 69, 82, 95, 82, 79, 87]⟩) ∧ w' = w := fun w => Tryd.RLKeyword_calls 3 w
  have R4 : ∀ w : World, Calls Tryd.prog 15 #[.int .i64 4] w fun e w' => e = .returned (.string ⟨#[85, 80, 80, 69, 82, 95, 68, 73, 65, 71, 95, 82, 79, 87]⟩) ∧ w' = w := fun w => Tryd.RLKeyword_calls 4 w
  have R5 : ∀ w : World, Calls Tryd.prog 15 #[.int .i64 5] w fun e w' => e = .returned (.string ⟨#[76, 79, 87, 69, 82, 95, 68, 73, 65, 71, 95, 82, 79, 87]⟩) ∧ w' = w := fun w => Tryd.RLKeyword_calls 5 w
  have R6 : ∀ w : World, Calls Tryd.prog 15 #[.int .i64 6] w fun e w' => e = .returned (.string ⟨#[85, 80, 80, 69, 82, 95, 67, 79, 76]⟩) ∧ w' = w := fun w => Tryd.RLKeyword_calls 6 w
  have R7 : ∀ w : World, Calls Tryd.prog 15 #[.int .i64 7] w fun e w' => e = .returned (.string ⟨#[76, 79, 87, 69, 82, 95, 67, 79, 76]⟩) ∧ w' = w := fun w => Tryd.RLKeyword_calls 7 w
  go_enter Tryd.func17, Tryd.ntmps17
  go_wp2
  go_loop [3] (fun i => ∃ j : Nat, 1 ≤ j ∧ j ≤ 8 ∧ i = .int .i64 (j : Int) ∧ Hid (lofR s = lofFrom s j (8 - j))) (fun i => 8 - (intOf i).toNat)
  case atStart => exact ⟨1, by omega, by omega, rfl, rfl⟩
  case round =>
    obtain ⟨j, hj1, hj, rfl, hH⟩ := hrel
    by_cases hlt : j < 8
    · obtain ⟨m, hm⟩ : ∃ m, 8 - j = m + 1 := ⟨7 - j, by omega⟩
      have hH2 := hH.out
      rw [hm] at hH2
      simp only [lofFrom] at hH2
      clear hH
      have hm2 : 8 - (j + 1) = m := by omega
      rcases (show j = 1 ∨ j = 2 ∨ j = 3 ∨ j = 4 ∨ j = 5 ∨ j = 6 ∨ j = 7 by omega) with rfl | rfl | rfl | rfl | rfl | rfl | rfl
      all_goals
        simp only [lkAt, lk1, lk2, lk3, lk4, lk5, lk6, lk7] at hH2
        split at hH2
        · rename_i he
          subst he
          have HH := Lib.hid hH2
          clear hH2 hm hm2
          go_wp2_with (go_at_call 15; first
            | ((with_reducible refine (R1 _).mono ?_); rintro e w1 ⟨rfl, hw1⟩; obtain rfl : w = w1 := hw1.symm)
            | ((with_reducible refine (R2 _).mono ?_); rintro e w1 ⟨rfl, hw1⟩; obtain rfl : w = w1 := hw1.symm)
            | ((with_reducible refine (R3 _).mono ?_); rintro e w1 ⟨rfl, hw1⟩; obtain rfl : w = w1 := hw1.symm)
            | ((with_reducible refine (R4 _).mono ?_); rintro e w1 ⟨rfl, hw1⟩; obtain rfl : w = w1 := hw1.symm)
            | ((with_reducible refine (R5 _).mono ?_); rintro e w1 ⟨rfl, hw1⟩; obtain rfl : w = w1 := hw1.symm)
            | ((with_reducible refine (R6 _).mono ?_); rintro e w1 ⟨rfl, hw1⟩; obtain rfl : w = w1 := hw1.symm)
            | ((with_reducible refine (R7 _).mono ?_); rintro e w1 ⟨rfl, hw1⟩; obtain rfl : w = w1 := hw1.symm))
          go_ret
          exact ⟨lret_num HH.out.symm, rfl⟩
        · rename_i he
          have hne := ltext_beq he
          have HH := Lib.hid hH2
          have Hm := Lib.hid hm2
          clear hH2 hm hm2
          go_wp2_with (go_at_call 15; first
            | ((with_reducible refine (R1 _).mono ?_); rintro e w1 ⟨rfl, hw1⟩; obtain rfl : w = w1 := hw1.symm)
            | ((with_reducible refine (R2 _).mono ?_); rintro e w1 ⟨rfl, hw1⟩; obtain rfl : w = w1 := hw1.symm)
            | ((with_reducible refine (R3 _).mono ?_); rintro e w1 ⟨rfl, hw1⟩; obtain rfl : w = w1 := hw1.symm)
            | ((with_reducible refine (R4 _).mono ?_); rintro e w1 ⟨rfl, hw1⟩; obtain rfl : w = w1 := hw1.symm)
            | ((with_reducible refine (R5 _).mono ?_); rintro e w1 ⟨rfl, hw1⟩; obtain rfl : w = w1 := hw1.symm)
            | ((with_reducible refine (R6 _).mono ?_); rintro e w1 ⟨rfl, hw1⟩; obtain rfl : w = w1 := hw1.symm)
            | ((with_reducible refine (R7 _).mono ?_); rintro e w1 ⟨rfl, hw1⟩; obtain rfl : w = w1 := hw1.symm))
          go_round
          case rel =>
            have e := HH.out
            rw [← Hm.out] at e
            first | exact ⟨2, by omega, by omega, by go_num, Lib.hid e⟩ | exact ⟨3, by omega, by omega, by go_num, Lib.hid e⟩ | exact ⟨4, by omega, by omega, by go_num, Lib.hid e⟩ | exact ⟨5, by omega, by omega, by go_num, Lib.hid e⟩ | exact ⟨6, by omega, by omega, by go_num, Lib.hid e⟩ | exact ⟨7, by omega, by omega, by go_num, Lib.hid e⟩ | exact ⟨8, by omega, by omega, by go_num, Lib.hid e⟩
          case measure => simp [intOf]
    · obtain rfl : j = 8 := by omega
      go_wp2
      go_ret
      exact ⟨lret_num hH.out.symm, rfl⟩
#print axioms Tryd.RLOf_calls
end Go.Proofs
