/- The law RootTens of layer 5, as a contract: it answers true at every input. -/
import Derived.Test.YtihodgjkiocjmaaAt
namespace Go.Proofs
open Go.RowKit Go.Shelf Go.Root
attribute [local go_sem] Oper.semAt_some

set_option maxRecDepth 100000 in
set_option maxHeartbeats 1000000 in
theorem Try.RootTens_calls (n d : Int) (w : World) (hd0 : 0 ≤ d) (hd9 : d ≤ 65535) : Calls Try.prog 8 #[.int .i64 n, .int .u16 d] w fun e w' => e = .returned (.bool true) ∧ Below w.heap.size w w' := by
  by_cases h0 : n < 0
  · have c1 : decide (n < 0) = true := decide_eq_true h0
    go_enter Try.func8, Try.ntmps8
    go_wp2_with (go_at_call 10; (with_reducible refine (Try.shown_calls _).mono ?_); rintro e w2 ⟨rfl, hb⟩)
    go_ret
    exact ⟨rfl, hb⟩
  · have c1 : decide (n < 0) = false := decide_eq_false h0
    by_cases h9 : n ≤ 800000000000000
    · have c2 : decide (800000000000000 < n) = false := decide_eq_false (by omega)
      obtain ⟨n, rfl⟩ := nat_of (show 0 ≤ n by omega)
      obtain ⟨d, rfl⟩ := nat_of hd0
      have q1 := near_tens (n := n) (t := 1 + d) (by omega) (by omega)
      have q2 := down_tens (n := n) (t := 1 + d) (by omega) (by omega)
      have q3 := ceil_tens (n := n) (t := 1 + d) (by omega) (by omega)
      have q4 := down_tenth (n := n) (t := 1 + d) (by omega) (by omega)
      have F1 := fun (x y : Int) (w : World) hx hy => Try.Near_at x y (100 * n) (10 * (1 + d)) w hx hy (by omega) (by omega) (by omega)
      have F2 := fun (x y : Int) (w : World) hx hy => Try.Near_at x y n (1 + d) w hx hy (by omega) (by omega) (by omega)
      have F3 := fun (x y : Int) (w : World) hx hy => Try.Down_at x 10 y (100 * n) 10 (10 * (1 + d)) w hx rfl hy (by omega) (by omega) (by omega) (by omega)
      have F4 := fun (x y : Int) (w : World) hx hy => Try.Down_at x 10 y n 10 (1 + d) w hx rfl hy (by omega) (by omega) (by omega) (by omega)
      have F5 := fun (x y : Int) (w : World) hx hy => Try.Ceil_at x 10 y (100 * n) 10 (10 * (1 + d)) w hx rfl hy (by omega) (by omega) (by omega) (by omega) (by omega)
      have F6 := fun (x y : Int) (w : World) hx hy => Try.Ceil_at x 10 y n 10 (1 + d) w hx rfl hy (by omega) (by omega) (by omega) (by omega) (by omega)
      have F7 := fun (x y : Int) (w : World) hx hy => Try.Down_at x 10 y n 10 (10 * (1 + d)) w hx rfl hy (by omega) (by omega) (by omega) (by omega)
      have F8 := fun (x y : Int) (w : World) hx hy => Try.Down_at x 1 y n 1 (1 + d) w hx rfl hy (by omega) (by omega) (by omega) (by omega)
      simp only [q1, q2, q3, q4] at F1 F3 F5 F7
      clear q1 q2 q3 q4
      generalize near n (1 + d) = y1 at F1 F2
      generalize down n 10 (1 + d) = y2 at F3 F4
      generalize ceil n 10 (1 + d) = y3 at F5 F6
      generalize down n 1 (1 + d) = y4 at F7 F8
      go_enter Try.func8, Try.ntmps8
      go_wp2_with (go_at_call 10; (with_reducible refine (Try.shown_calls _).mono ?_); rintro e w0 ⟨rfl, hb⟩)
      go_wp2_with (go_at_call 13; (with_reducible refine (F1 _ _ _ (by omega) (by omega)).mono ?_); rintro e w1 ⟨rfl, h1⟩; clear F1; replace hb := below_next hb h1 (Nat.le_refl _); clear h1)
      go_wp2_with (go_at_call 13; (with_reducible refine (F2 _ _ _ (by omega) (by omega)).mono ?_); rintro e w2 ⟨rfl, h1⟩; clear F2; replace hb := below_next hb h1 (Nat.le_refl _); clear h1)
      go_wp2_with (go_at_call 15; (with_reducible refine (F3 _ _ _ (by omega) (by omega)).mono ?_); rintro e w3 ⟨rfl, h1⟩; clear F3; replace hb := below_next hb h1 (Nat.le_refl _); clear h1)
      go_wp2_with (go_at_call 15; (with_reducible refine (F4 _ _ _ (by omega) (by omega)).mono ?_); rintro e w4 ⟨rfl, h1⟩; clear F4; replace hb := below_next hb h1 (Nat.le_refl _); clear h1)
      go_wp2_with (go_at_call 17; (with_reducible refine (F5 _ _ _ (by omega) (by omega)).mono ?_); rintro e w5 ⟨rfl, h1⟩; clear F5; replace hb := below_next hb h1 (Nat.le_refl _); clear h1)
      go_wp2_with (go_at_call 17; (with_reducible refine (F6 _ _ _ (by omega) (by omega)).mono ?_); rintro e w6 ⟨rfl, h1⟩; clear F6; replace hb := below_next hb h1 (Nat.le_refl _); clear h1)
      go_wp2_with (go_at_call 15; (with_reducible refine (F7 _ _ _ (by omega) (by omega)).mono ?_); rintro e w7 ⟨rfl, h1⟩; clear F7; replace hb := below_next hb h1 (Nat.le_refl _); clear h1)
      go_wp2_with (go_at_call 15; (with_reducible refine (F8 _ _ _ (by omega) (by omega)).mono ?_); rintro e w8 ⟨rfl, h1⟩; clear F8; replace hb := below_next hb h1 (Nat.le_refl _); clear h1)
      go_ret
      exact ⟨rfl, hb⟩
    · have c2 : decide (800000000000000 < n) = true := decide_eq_true (by omega)
      go_enter Try.func8, Try.ntmps8
      go_wp2_with (go_at_call 10; (with_reducible refine (Try.shown_calls _).mono ?_); rintro e w2 ⟨rfl, hb⟩)
      go_ret
      exact ⟨rfl, hb⟩
#print axioms Try.RootTens_calls
end Go.Proofs
