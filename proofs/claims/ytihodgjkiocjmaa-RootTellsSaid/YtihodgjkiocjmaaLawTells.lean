/- The law RootTells of layer 5, as a contract: it answers true at every input. -/
import Derived.Test.YtihodgjkiocjmaaRQuotients
namespace Go.Proofs
open Go.RowKit Go.Shelf Go.Root
attribute [local go_sem] Oper.semAt_some

set_option maxRecDepth 100000 in
set_option maxHeartbeats 1000000 in
/-- Where nothing is said of the numbers. -/
theorem Try.RootTells_out (n m k d : Int) (w : World) (h : ¬ (goodB n = true ∧ (1 ≤ m ∧ m ≤ 10) ∧ (1 ≤ k ∧ k ≤ 10) ∧ (1 ≤ d ∧ d ≤ 1000000))) :
    Calls Try.prog 3 #[.int .i64 n, .int .i64 m, .int .i64 k, .int .i64 d] w fun e w' => e = .returned (.bool true) ∧ Below w.heap.size w w' := by
  have G := Try.good_calls n
  go_enter Try.func3, Try.ntmps3
  by_cases hn : goodB n = true
  · rw [hn] at G
    by_cases h1 : m < 1
    · have c1 : decide (m < 1) = true := decide_eq_true h1
      clear h
      go_wp2_with (go_at_call 9; (with_reducible refine (G _).mono ?_); rintro e w1 ⟨rfl, hw1⟩; obtain rfl : w = w1 := hw1.symm)
      go_wp2_with (go_at_call 10; (with_reducible refine (Try.shown_calls _).mono ?_); rintro e w2 ⟨rfl, hb⟩)
      go_ret
      exact ⟨rfl, hb⟩
    · have c1 : decide (m < 1) = false := decide_eq_false h1
      by_cases h2 : 10 < m
      · have c2 : decide (10 < m) = true := decide_eq_true h2
        clear h
        go_wp2_with (go_at_call 9; (with_reducible refine (G _).mono ?_); rintro e w1 ⟨rfl, hw1⟩; obtain rfl : w = w1 := hw1.symm)
        go_wp2_with (go_at_call 10; (with_reducible refine (Try.shown_calls _).mono ?_); rintro e w2 ⟨rfl, hb⟩)
        go_ret
        exact ⟨rfl, hb⟩
      · have c2 : decide (10 < m) = false := decide_eq_false h2
        by_cases h3 : k < 1
        · have c3 : decide (k < 1) = true := decide_eq_true h3
          clear h
          go_wp2_with (go_at_call 9; (with_reducible refine (G _).mono ?_); rintro e w1 ⟨rfl, hw1⟩; obtain rfl : w = w1 := hw1.symm)
          go_wp2_with (go_at_call 10; (with_reducible refine (Try.shown_calls _).mono ?_); rintro e w2 ⟨rfl, hb⟩)
          go_ret
          exact ⟨rfl, hb⟩
        · have c3 : decide (k < 1) = false := decide_eq_false h3
          by_cases h4 : 10 < k
          · have c4 : decide (10 < k) = true := decide_eq_true h4
            clear h
            go_wp2_with (go_at_call 9; (with_reducible refine (G _).mono ?_); rintro e w1 ⟨rfl, hw1⟩; obtain rfl : w = w1 := hw1.symm)
            go_wp2_with (go_at_call 10; (with_reducible refine (Try.shown_calls _).mono ?_); rintro e w2 ⟨rfl, hb⟩)
            go_ret
            exact ⟨rfl, hb⟩
          · have c4 : decide (10 < k) = false := decide_eq_false h4
            by_cases h5 : d < 1
            · have c5 : decide (d < 1) = true := decide_eq_true h5
              clear h
              go_wp2_with (go_at_call 9; (with_reducible refine (G _).mono ?_); rintro e w1 ⟨rfl, hw1⟩; obtain rfl : w = w1 := hw1.symm)
              go_wp2_with (go_at_call 10; (with_reducible refine (Try.shown_calls _).mono ?_); rintro e w2 ⟨rfl, hb⟩)
              go_ret
              exact ⟨rfl, hb⟩
            · have c5 : decide (d < 1) = false := decide_eq_false h5
              have h6 : 1000000 < d := Int.not_le.1 fun q => h ⟨hn, ⟨by omega, by omega⟩, ⟨by omega, by omega⟩, ⟨by omega, q⟩⟩
              have c6 : decide (1000000 < d) = true := decide_eq_true h6
              clear h
              go_wp2_with (go_at_call 9; (with_reducible refine (G _).mono ?_); rintro e w1 ⟨rfl, hw1⟩; obtain rfl : w = w1 := hw1.symm)
              go_wp2_with (go_at_call 10; (with_reducible refine (Try.shown_calls _).mono ?_); rintro e w2 ⟨rfl, hb⟩)
              go_ret
              exact ⟨rfl, hb⟩
  · rw [Bool.not_eq_true] at hn
    rw [hn] at G
    clear h
    go_wp2_with (go_at_call 9; (with_reducible refine (G _).mono ?_); rintro e w1 ⟨rfl, hw1⟩; obtain rfl : w = w1 := hw1.symm)
    go_wp2_with (go_at_call 10; (with_reducible refine (Try.shown_calls _).mono ?_); rintro e w2 ⟨rfl, hb⟩)
    go_ret
    exact ⟨rfl, hb⟩

set_option maxRecDepth 100000 in
set_option maxHeartbeats 1000000 in
theorem Try.RootTells_in (n m k d : Nat) (w : World) (hn : n ≤ 80000000000000000) (hm : 1 ≤ m) (hm9 : m ≤ 10) (hk : 1 ≤ k) (hk9 : k ≤ 10) (hd : 1 ≤ d) (hd9 : d ≤ 1000000) :
    Calls Try.prog 3 #[.int .i64 (n : Int), .int .i64 (m : Int), .int .i64 (k : Int), .int .i64 (d : Int)] w fun e w' => e = .returned (.bool true) ∧ Below w.heap.size w w' := by
  have G := Try.good_calls (n : Int)
  rw [show goodB (n : Int) = true from by simp [goodB]; omega] at G
  have c1 : decide ((m : Int) < 1) = false := decide_eq_false (by omega)
  have c2 : decide (10 < (m : Int)) = false := decide_eq_false (by omega)
  have c3 : decide ((k : Int) < 1) = false := decide_eq_false (by omega)
  have c4 : decide (10 < (k : Int)) = false := decide_eq_false (by omega)
  have c5 : decide ((d : Int) < 1) = false := decide_eq_false (by omega)
  have c6 : decide (1000000 < (d : Int)) = false := decide_eq_false (by omega)
  have F1 := fun (w : World) => Try.Floor_calls n w (by omega)
  have R1 := fun (w : World) => Try.RFloor_calls n w hn
  have F2 := fun (w : World) => Try.Near_calls n d w hn hd hd9
  have R2 := fun (w : World) => Try.RNear_calls n d w hn hd hd9
  have F3 := fun (w : World) => Try.Down_calls n m d w hn hm9 hd hd9
  have R3 := fun (w : World) => Try.RDown_calls n m d w hn hm9 hd
  have F4 := fun (w : World) => Try.Ceil_calls n k d w hn hk hk9 hd hd9
  have R4 := fun (w : World) => Try.RCeil_calls n k d w hn hk hk9 hd
  generalize rt n = z1 at F1 R1
  generalize near n d = z2 at F2 R2
  generalize down n m d = z3 at F3 R3
  generalize ceil n k d = z4 at F4 R4
  go_enter Try.func3, Try.ntmps3
  go_wp2_with (go_at_call 9; (with_reducible refine (G _).mono ?_); rintro e w1 ⟨rfl, hw1⟩; obtain rfl : w = w1 := hw1.symm)
  go_wp2_with (go_at_call 10; (with_reducible refine (Try.shown_calls _).mono ?_); rintro e w0 ⟨rfl, hb⟩)
  go_wp2_with (go_at_call 11; (with_reducible refine (F1 _).mono ?_); rintro e v1 ⟨rfl, h1⟩; clear F1; replace hb := below_next hb h1 (Nat.le_refl _); clear h1)
  go_wp2_with (go_at_call 12; (with_reducible refine (R1 _).mono ?_); rintro e y1 ⟨rfl, hw1⟩; obtain rfl : v1 = y1 := hw1.symm)
  go_wp2_with (go_at_call 13; (with_reducible refine (F2 _).mono ?_); rintro e v2 ⟨rfl, h1⟩; clear F2; replace hb := below_next hb h1 (Nat.le_refl _); clear h1)
  go_wp2_with (go_at_call 14; (with_reducible refine (R2 _).mono ?_); rintro e y2 ⟨rfl, hw1⟩; obtain rfl : v2 = y2 := hw1.symm)
  go_wp2_with (go_at_call 15; (with_reducible refine (F3 _).mono ?_); rintro e v3 ⟨rfl, h1⟩; clear F3; replace hb := below_next hb h1 (Nat.le_refl _); clear h1)
  go_wp2_with (go_at_call 16; (with_reducible refine (R3 _).mono ?_); rintro e y3 ⟨rfl, hw1⟩; obtain rfl : v3 = y3 := hw1.symm)
  go_wp2_with (go_at_call 17; (with_reducible refine (F4 _).mono ?_); rintro e v4 ⟨rfl, h1⟩; clear F4; replace hb := below_next hb h1 (Nat.le_refl _); clear h1)
  go_wp2_with (go_at_call 18; (with_reducible refine (R4 _).mono ?_); rintro e y4 ⟨rfl, hw1⟩; obtain rfl : v4 = y4 := hw1.symm)
  go_ret
  exact ⟨rfl, hb⟩

theorem Try.RootTells_calls (n m k d : Int) (w : World) :
    Calls Try.prog 3 #[.int .i64 n, .int .i64 m, .int .i64 k, .int .i64 d] w fun e w' => e = .returned (.bool true) ∧ Below w.heap.size w w' := by
  by_cases h : goodB n = true ∧ (1 ≤ m ∧ m ≤ 10) ∧ (1 ≤ k ∧ k ≤ 10) ∧ (1 ≤ d ∧ d ≤ 1000000)
  · obtain ⟨hn, ⟨hm, hm9⟩, ⟨hk, hk9⟩, ⟨hd, hd9⟩⟩ := h
    obtain ⟨hn0, hn9⟩ := goodB_true hn
    obtain ⟨n, rfl⟩ := nat_of hn0
    obtain ⟨m, rfl⟩ := nat_of (show 0 ≤ m by omega)
    obtain ⟨k, rfl⟩ := nat_of (show 0 ≤ k by omega)
    obtain ⟨d, rfl⟩ := nat_of (show 0 ≤ d by omega)
    exact Try.RootTells_in n m k d w (by omega) (by omega) (by omega) (by omega) (by omega) (by omega) (by omega)
  · exact Try.RootTells_out n m k d w h
#print axioms Try.RootTells_calls
end Go.Proofs
