/- The law RootRises of layer 5, as a contract: it answers true at every input. -/
import Derived.Test.YtihodgjkiocjmaaAt
namespace Go.Proofs
open Go.RowKit Go.Shelf Go.Root
attribute [local go_sem] Oper.semAt_some

/-- A divisor of which something is said. -/
def divB (d : Int) : Prop := 1 ≤ d ∧ d ≤ 1000000

set_option maxRecDepth 100000 in
set_option maxHeartbeats 1000000 in
/-- Where nothing is said of the numbers. -/
theorem Try.RootRises_out (a b d e0 : Int) (w : World) (h : ¬ (goodB a = true ∧ goodB b = true ∧ divB d ∧ divB e0)) :
    Calls Try.prog 7 #[.int .i64 a, .int .i64 b, .int .i64 d, .int .i64 e0] w fun e w' => e = .returned (.bool true) ∧ Below w.heap.size w w' := by
  have G := Try.good_calls a
  have H := Try.good_calls b
  go_enter Try.func7, Try.ntmps7
  by_cases ha : goodB a = true
  · rw [ha] at G
    by_cases hb : goodB b = true
    · rw [hb] at H
      by_cases h1 : d < 1
      · have c1 : decide (d < 1) = true := decide_eq_true h1
        clear h
        go_wp2_with (go_at_call 9; (with_reducible refine (G _).mono ?_); rintro e w1 ⟨rfl, hw1⟩; obtain rfl : w = w1 := hw1.symm)
        go_wp2_with (go_at_call 9; (with_reducible refine (H _).mono ?_); rintro e w1 ⟨rfl, hw1⟩; obtain rfl : w = w1 := hw1.symm)
        go_wp2_with (go_at_call 10; (with_reducible refine (Try.shown_calls _).mono ?_); rintro e w2 ⟨rfl, hb⟩)
        go_ret
        exact ⟨rfl, hb⟩
      · have c1 : decide (d < 1) = false := decide_eq_false h1
        by_cases h2 : 1000000 < d
        · have c2 : decide (1000000 < d) = true := decide_eq_true h2
          clear h
          go_wp2_with (go_at_call 9; (with_reducible refine (G _).mono ?_); rintro e w1 ⟨rfl, hw1⟩; obtain rfl : w = w1 := hw1.symm)
          go_wp2_with (go_at_call 9; (with_reducible refine (H _).mono ?_); rintro e w1 ⟨rfl, hw1⟩; obtain rfl : w = w1 := hw1.symm)
          go_wp2_with (go_at_call 10; (with_reducible refine (Try.shown_calls _).mono ?_); rintro e w2 ⟨rfl, hb⟩)
          go_ret
          exact ⟨rfl, hb⟩
        · have c2 : decide (1000000 < d) = false := decide_eq_false h2
          by_cases h3 : e0 < 1
          · have c3 : decide (e0 < 1) = true := decide_eq_true h3
            clear h
            go_wp2_with (go_at_call 9; (with_reducible refine (G _).mono ?_); rintro e w1 ⟨rfl, hw1⟩; obtain rfl : w = w1 := hw1.symm)
            go_wp2_with (go_at_call 9; (with_reducible refine (H _).mono ?_); rintro e w1 ⟨rfl, hw1⟩; obtain rfl : w = w1 := hw1.symm)
            go_wp2_with (go_at_call 10; (with_reducible refine (Try.shown_calls _).mono ?_); rintro e w2 ⟨rfl, hb⟩)
            go_ret
            exact ⟨rfl, hb⟩
          · have c3 : decide (e0 < 1) = false := decide_eq_false h3
            have h4 : 1000000 < e0 := by
              refine Int.not_le.1 fun k => h ⟨ha, hb, ⟨by omega, by omega⟩, ⟨by omega, by omega⟩⟩
            have c4 : decide (1000000 < e0) = true := decide_eq_true h4
            clear h
            go_wp2_with (go_at_call 9; (with_reducible refine (G _).mono ?_); rintro e w1 ⟨rfl, hw1⟩; obtain rfl : w = w1 := hw1.symm)
            go_wp2_with (go_at_call 9; (with_reducible refine (H _).mono ?_); rintro e w1 ⟨rfl, hw1⟩; obtain rfl : w = w1 := hw1.symm)
            go_wp2_with (go_at_call 10; (with_reducible refine (Try.shown_calls _).mono ?_); rintro e w2 ⟨rfl, hb⟩)
            go_ret
            exact ⟨rfl, hb⟩
    · rw [Bool.not_eq_true] at hb
      rw [hb] at H
      clear h
      go_wp2_with (go_at_call 9; (with_reducible refine (G _).mono ?_); rintro e w1 ⟨rfl, hw1⟩; obtain rfl : w = w1 := hw1.symm)
      go_wp2_with (go_at_call 9; (with_reducible refine (H _).mono ?_); rintro e w1 ⟨rfl, hw1⟩; obtain rfl : w = w1 := hw1.symm)
      go_wp2_with (go_at_call 10; (with_reducible refine (Try.shown_calls _).mono ?_); rintro e w2 ⟨rfl, hb⟩)
      go_ret
      exact ⟨rfl, hb⟩
  · rw [Bool.not_eq_true] at ha
    rw [ha] at G
    clear h
    go_wp2_with (go_at_call 9; (with_reducible refine (G _).mono ?_); rintro e w1 ⟨rfl, hw1⟩; obtain rfl : w = w1 := hw1.symm)
    go_wp2_with (go_at_call 10; (with_reducible refine (Try.shown_calls _).mono ?_); rintro e w2 ⟨rfl, hb⟩)
    go_ret
    exact ⟨rfl, hb⟩

set_option maxRecDepth 100000 in
set_option maxHeartbeats 1000000 in
theorem Try.RootRises_in (a b d e0 : Nat) (w : World) (ha : a ≤ 80000000000000000) (hb : b ≤ 80000000000000000) (hd1 : 1 ≤ d) (hd9 : d ≤ 1000000) (he1 : 1 ≤ e0) (he9 : e0 ≤ 1000000) :
    Calls Try.prog 7 #[.int .i64 (a : Int), .int .i64 (b : Int), .int .i64 (d : Int), .int .i64 (e0 : Int)] w fun e w' => e = .returned (.bool true) ∧ Below w.heap.size w w' := by
  have G := Try.good_calls (a : Int)
  have H := Try.good_calls (b : Int)
  rw [show goodB (a : Int) = true from by simp [goodB]; omega] at G
  rw [show goodB (b : Int) = true from by simp [goodB]; omega] at H
  have c1 : decide ((d : Int) < 1) = false := decide_eq_false (by omega)
  have c2 : decide (1000000 < (d : Int)) = false := decide_eq_false (by omega)
  have c3 : decide ((e0 : Int) < 1) = false := decide_eq_false (by omega)
  have c4 : decide (1000000 < (e0 : Int)) = false := decide_eq_false (by omega)
  obtain ⟨x, hx⟩ : ∃ x : Nat, min (a : Int) (b : Int) = (x : Int) := ⟨min a b, by omega⟩
  obtain ⟨y, hy⟩ : ∃ y : Nat, max (a : Int) (b : Int) = (y : Int) := ⟨max a b, by omega⟩
  obtain ⟨s, hs⟩ : ∃ s : Nat, min (d : Int) (e0 : Int) = (s : Int) := ⟨min d e0, by omega⟩
  obtain ⟨t, ht⟩ : ∃ t : Nat, max (d : Int) (e0 : Int) = (t : Int) := ⟨max d e0, by omega⟩
  have hxy : x ≤ y := by omega
  have hy9 : y ≤ 80000000000000000 := by omega
  have hst : s ≤ t := by omega
  have hs1 : 1 ≤ s := by omega
  have ht9 : t ≤ 1000000 := by omega
  have k1 := rt_mono hxy (by omega)
  have k2 := near_mono (d := d) hxy hy9
  have k3 := down_mono (m := 7) (d := d) hxy (by omega)
  have k4 := ceil_mono (k := 10) (d := d) hxy hy9 (by omega) hd1
  have k5 := near_falls (n := a) hst hs1
  have k6 := ceil_falls (n := a) (k := 1) hst hs1 (by omega) ha
  have F1 := fun (w : World) => Try.Floor_calls x w (by omega)
  have F2 := fun (w : World) => Try.Floor_calls y w (by omega)
  have F3 := fun (w : World) => Try.Near_calls x d w (by omega) (by omega) (by omega)
  have F4 := fun (w : World) => Try.Near_calls y d w (by omega) (by omega) (by omega)
  have F5 := fun (w : World) => Try.Down_calls x 7 d w (by omega) (by omega) (by omega) (by omega)
  have F6 := fun (w : World) => Try.Down_calls y 7 d w (by omega) (by omega) (by omega) (by omega)
  have F7 := fun (w : World) => Try.Ceil_calls x 10 d w (by omega) (by omega) (by omega) (by omega) (by omega)
  have F8 := fun (w : World) => Try.Ceil_calls y 10 d w (by omega) (by omega) (by omega) (by omega) (by omega)
  have F9 := fun (w : World) => Try.Near_calls a s w (by omega) (by omega) (by omega)
  have F10 := fun (w : World) => Try.Near_calls a t w (by omega) (by omega) (by omega)
  have F11 := fun (w : World) => Try.Ceil_calls a 1 s w (by omega) (by omega) (by omega) (by omega) (by omega)
  have F12 := fun (w : World) => Try.Ceil_calls a 1 t w (by omega) (by omega) (by omega) (by omega) (by omega)
  simp only [Int.cast_ofNat_Int] at F5 F6 F7 F8 F11 F12
  generalize rt x = z1 at F1 k1
  generalize rt y = z2 at F2 k1
  generalize near x d = z3 at F3 k2
  generalize near y d = z4 at F4 k2
  generalize down x 7 d = z5 at F5 k3
  generalize down y 7 d = z6 at F6 k3
  generalize ceil x 10 d = z7 at F7 k4
  generalize ceil y 10 d = z8 at F8 k4
  generalize near a s = z9 at F9 k5
  generalize near a t = z10 at F10 k5
  generalize ceil a 1 s = z11 at F11 k6
  generalize ceil a 1 t = z12 at F12 k6
  go_enter Try.func7, Try.ntmps7
  go_wp2_with (go_at_call 9; (with_reducible refine (G _).mono ?_); rintro e w1 ⟨rfl, hw1⟩; obtain rfl : w = w1 := hw1.symm)
  go_wp2_with (go_at_call 9; (with_reducible refine (H _).mono ?_); rintro e w1 ⟨rfl, hw1⟩; obtain rfl : w = w1 := hw1.symm)
  go_wp2_with (go_at_call 10; (with_reducible refine (Try.shown_calls _).mono ?_); rintro e w0 ⟨rfl, hb⟩)
  go_wp2_with (go_at_call 11; (with_reducible refine (F1 _).mono ?_); rintro e v1 ⟨rfl, h1⟩; clear F1; replace hb := below_next hb h1 (Nat.le_refl _); clear h1)
  go_wp2_with (go_at_call 11; (with_reducible refine (F2 _).mono ?_); rintro e v2 ⟨rfl, h1⟩; clear F2; replace hb := below_next hb h1 (Nat.le_refl _); clear h1)
  go_wp2_with (go_at_call 13; (with_reducible refine (F3 _).mono ?_); rintro e v3 ⟨rfl, h1⟩; clear F3; replace hb := below_next hb h1 (Nat.le_refl _); clear h1)
  go_wp2_with (go_at_call 13; (with_reducible refine (F4 _).mono ?_); rintro e v4 ⟨rfl, h1⟩; clear F4; replace hb := below_next hb h1 (Nat.le_refl _); clear h1)
  go_wp2_with (go_at_call 15; (with_reducible refine (F5 _).mono ?_); rintro e v5 ⟨rfl, h1⟩; clear F5; replace hb := below_next hb h1 (Nat.le_refl _); clear h1)
  go_wp2_with (go_at_call 15; (with_reducible refine (F6 _).mono ?_); rintro e v6 ⟨rfl, h1⟩; clear F6; replace hb := below_next hb h1 (Nat.le_refl _); clear h1)
  go_wp2_with (go_at_call 17; (with_reducible refine (F7 _).mono ?_); rintro e v7 ⟨rfl, h1⟩; clear F7; replace hb := below_next hb h1 (Nat.le_refl _); clear h1)
  go_wp2_with (go_at_call 17; (with_reducible refine (F8 _).mono ?_); rintro e v8 ⟨rfl, h1⟩; clear F8; replace hb := below_next hb h1 (Nat.le_refl _); clear h1)
  go_wp2_with (go_at_call 13; (with_reducible refine (F9 _).mono ?_); rintro e v9 ⟨rfl, h1⟩; clear F9; replace hb := below_next hb h1 (Nat.le_refl _); clear h1)
  go_wp2_with (go_at_call 13; (with_reducible refine (F10 _).mono ?_); rintro e v10 ⟨rfl, h1⟩; clear F10; replace hb := below_next hb h1 (Nat.le_refl _); clear h1)
  go_wp2_with (go_at_call 17; (with_reducible refine (F11 _).mono ?_); rintro e v11 ⟨rfl, h1⟩; clear F11; replace hb := below_next hb h1 (Nat.le_refl _); clear h1)
  go_wp2_with (go_at_call 17; (with_reducible refine (F12 _).mono ?_); rintro e v12 ⟨rfl, h1⟩; clear F12; replace hb := below_next hb h1 (Nat.le_refl _); clear h1)
  go_ret
  exact ⟨rfl, hb⟩

theorem Try.RootRises_calls (a b d e0 : Int) (w : World) :
    Calls Try.prog 7 #[.int .i64 a, .int .i64 b, .int .i64 d, .int .i64 e0] w fun e w' => e = .returned (.bool true) ∧ Below w.heap.size w w' := by
  by_cases h : goodB a = true ∧ goodB b = true ∧ divB d ∧ divB e0
  · obtain ⟨ha, hb, ⟨hd1, hd9⟩, ⟨he1, he9⟩⟩ := h
    obtain ⟨ha0, ha9⟩ := goodB_true ha
    obtain ⟨hb0, hb9⟩ := goodB_true hb
    obtain ⟨a, rfl⟩ := nat_of ha0
    obtain ⟨b, rfl⟩ := nat_of hb0
    obtain ⟨d, rfl⟩ := nat_of (show 0 ≤ d by omega)
    obtain ⟨e0, rfl⟩ := nat_of (show 0 ≤ e0 by omega)
    exact Try.RootRises_in a b d e0 w (by omega) (by omega) (by omega) (by omega) (by omega) (by omega)
  · exact Try.RootRises_out a b d e0 w h
#print axioms Try.RootRises_calls
end Go.Proofs
