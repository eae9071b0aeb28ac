/- The document's own answer for metric.Of: the same as the program's. Conditions: none. -/
import Derived.Test.YtjdifckofgaohaaDoorMetricKeys
namespace Go.Proofs
open Go.RowKit Go.Shelf Go.Root Go.Metric Go.TextTab
attribute [local go_sem] Oper.semAt_some

set_option maxRecDepth 100000 in
set_option maxHeartbeats 1000000 in
theorem Tryd.ROf_calls (s : ByteArray) (w : World) :
    Calls Tryd.prog 13 #[.string s] w fun e w' => e = .returned (.tuple #[.int .i64 (ofR s).1, .bool (ofR s).2]) ∧ w' = w := by
  have R0 : ∀ w : World, Calls Tryd.prog 17 #[.int .i64 0] w fun e w' => e = .returned (.string ⟨#[69, 88, 80, 76, 73, 67, 73, 84]⟩) ∧ w' = w := fun w => Tryd.RKeyword_calls 0 w
  have R1 : ∀ w : World, Calls Tryd.prog 17 #[.int .i64 1] w fun e w' => e = .returned (.string ⟨#[69, 85, 67, 95, 50, 68]⟩) ∧ w' = w := fun w => Tryd.RKeyword_calls 1 w
  have R2 : ∀ w : World, Calls Tryd.prog 17 #[.int .i64 2] w fun e w' => e = .returned (.string ⟨#[67, 69, 73, 76, 95, 50, 68]⟩) ∧ w' = w := fun w => Tryd.RKeyword_calls 2 w
  have R3 : ∀ w : World, Calls Tryd.prog 17 #[.int .i64 3] w fun e w' => e = .returned (.string ⟨#[77, 65, 78, 95, 50, 68]⟩) ∧ w' = w := fun w => Tryd.RKeyword_calls 3 w
  have R4 : ∀ w : World, Calls Tryd.prog 17 #[.int .i64 4] w fun e w' => e = .returned (.string ⟨#[77, 65, 88, 95, 50, 68]⟩) ∧ w' = w := fun w => Tryd.RKeyword_calls 4 w
  have R5 : ∀ w : World, Calls Tryd.prog 17 #[.int .i64 5] w fun e w' => e = .returned (.string ⟨#[65, 84, 84]⟩) ∧ w' = w := fun w => Tryd.RKeyword_calls 5 w
  go_enter Tryd.func13, Tryd.ntmps13
  go_wp2
  go_loop [4] (fun i => ∃ j : Nat, j ≤ 6 ∧ i = .int .i64 (j : Int) ∧ Hid (ofR s = ofFrom s j (6 - j))) (fun i => 6 - (intOf i).toNat)
  case atStart => exact ⟨0, Nat.zero_le _, rfl, rfl⟩
  case round =>
    obtain ⟨j, hj, rfl, hH⟩ := hrel
    by_cases hlt : j < 6
    · obtain ⟨m, hm⟩ : ∃ m, 6 - j = m + 1 := ⟨5 - j, by omega⟩
      have hH2 := hH.out
      rw [hm] at hH2
      simp only [ofFrom] at hH2
      clear hH
      have hm2 : 6 - (j + 1) = m := by omega
      rcases (show j = 0 ∨ j = 1 ∨ j = 2 ∨ j = 3 ∨ j = 4 ∨ j = 5 by omega) with rfl | rfl | rfl | rfl | rfl | rfl
      all_goals
        simp only [kwAt, kw0, kw1, kw2, kw3, kw4, kw5] at hH2
        split at hH2
        · rename_i he
          subst he
          have HH := Lib.hid hH2
          clear hH2 hm hm2
          go_wp2_with (go_at_call 17; first
            | ((with_reducible refine (R0 _).mono ?_); rintro e w1 ⟨rfl, hw1⟩; obtain rfl : w = w1 := hw1.symm)
            | ((with_reducible refine (R1 _).mono ?_); rintro e w1 ⟨rfl, hw1⟩; obtain rfl : w = w1 := hw1.symm)
            | ((with_reducible refine (R2 _).mono ?_); rintro e w1 ⟨rfl, hw1⟩; obtain rfl : w = w1 := hw1.symm)
            | ((with_reducible refine (R3 _).mono ?_); rintro e w1 ⟨rfl, hw1⟩; obtain rfl : w = w1 := hw1.symm)
            | ((with_reducible refine (R4 _).mono ?_); rintro e w1 ⟨rfl, hw1⟩; obtain rfl : w = w1 := hw1.symm)
            | ((with_reducible refine (R5 _).mono ?_); rintro e w1 ⟨rfl, hw1⟩; obtain rfl : w = w1 := hw1.symm))
          go_ret2
          exact ⟨ret_of HH.out, rfl⟩
        · rename_i he
          have hne := text_beq he
          have HH := Lib.hid hH2
          have Hm := Lib.hid hm2
          clear hH2 hm hm2
          go_wp2_with (go_at_call 17; first
            | ((with_reducible refine (R0 _).mono ?_); rintro e w1 ⟨rfl, hw1⟩; obtain rfl : w = w1 := hw1.symm)
            | ((with_reducible refine (R1 _).mono ?_); rintro e w1 ⟨rfl, hw1⟩; obtain rfl : w = w1 := hw1.symm)
            | ((with_reducible refine (R2 _).mono ?_); rintro e w1 ⟨rfl, hw1⟩; obtain rfl : w = w1 := hw1.symm)
            | ((with_reducible refine (R3 _).mono ?_); rintro e w1 ⟨rfl, hw1⟩; obtain rfl : w = w1 := hw1.symm)
            | ((with_reducible refine (R4 _).mono ?_); rintro e w1 ⟨rfl, hw1⟩; obtain rfl : w = w1 := hw1.symm)
            | ((with_reducible refine (R5 _).mono ?_); rintro e w1 ⟨rfl, hw1⟩; obtain rfl : w = w1 := hw1.symm))
          go_round
          case rel =>
            have e := HH.out
            rw [← Hm.out] at e
            first | exact ⟨1, by omega, by go_num, Lib.hid e⟩ | exact ⟨2, by omega, by go_num, Lib.hid e⟩ | exact ⟨3, by omega, by go_num, Lib.hid e⟩ | exact ⟨4, by omega, by go_num, Lib.hid e⟩ | exact ⟨5, by omega, by go_num, Lib.hid e⟩ | exact ⟨6, by omega, by go_num, Lib.hid e⟩
          case measure => simp [intOf]
    · obtain rfl : j = 6 := by omega
      go_wp2
      go_ret2
      exact ⟨ret_of hH.out, rfl⟩
end Go.Proofs
