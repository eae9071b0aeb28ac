/- What the laws of layer 5 ask first: the roots that are shown, and whether a number is one of which something is said. -/
import Derived.Test.YtihodgjkiocjmaaQuotients
namespace Go.Proofs
open Go.RowKit Go.Shelf Go.Root
attribute [local go_sem] Oper.semAt_some

def goodB (n : Int) : Bool := decide (0 ≤ n) && decide (n ≤ 80000000000000000)

theorem Try.good_calls (n : Int) (w : World) :
    Calls Try.prog 9 #[.int .i64 n] w fun e w' => e = .returned (.bool (goodB n)) ∧ w' = w := by
  go_enter Try.func9, Try.ntmps9
  by_cases h : (0 : Int) ≤ n
  · have h1 : decide ((0 : Int) ≤ n) = true := decide_eq_true h
    have hR : goodB n = decide (n ≤ 80000000000000000) := by simp [goodB, h]
    rw [hR]
    go_wp2
    go_ret
    exact ⟨rfl, rfl⟩
  · have h1 : decide ((0 : Int) ≤ n) = false := decide_eq_false h
    have hR : goodB n = false := by simp [goodB, h]
    rw [hR]
    go_wp2
    go_ret
    exact ⟨rfl, rfl⟩

set_option maxRecDepth 100000 in
set_option maxHeartbeats 1000000 in
theorem Try.shown_calls (w : World) : Calls Try.prog 10 #[] w fun e w' => e = .returned (.bool true) ∧ Below w.heap.size w w' := by
  have e1 : rt 99 = 9 := by decide +kernel
  have e2 : near 2 1 = 1 := by decide +kernel
  have e3 : near 225 10 = 2 := by decide +kernel
  have e4 : near 224 10 = 1 := by decide +kernel
  have e5 : ceil 2 1 1 = 2 := by decide +kernel
  have e6 : ceil 1000 10 1 = 10 := by decide +kernel
  have e7 : down 2 10 1 = 14 := by decide +kernel
  have F1 := fun (w : World) => Try.Floor_calls 99 w (by omega)
  have F2 := fun (w : World) => Try.Near_calls 2 1 w (by omega) (by omega) (by omega)
  have F3 := fun (w : World) => Try.Near_calls 225 10 w (by omega) (by omega) (by omega)
  have F4 := fun (w : World) => Try.Near_calls 224 10 w (by omega) (by omega) (by omega)
  have F5 := fun (w : World) => Try.Ceil_calls 2 1 1 w (by omega) (by omega) (by omega) (by omega) (by omega)
  have F6 := fun (w : World) => Try.Ceil_calls 1000 10 1 w (by omega) (by omega) (by omega) (by omega) (by omega)
  have F7 := fun (w : World) => Try.Down_calls 2 10 1 w (by omega) (by omega) (by omega) (by omega)
  rw [e1] at F1
  rw [e2] at F2
  rw [e3] at F3
  rw [e4] at F4
  rw [e5] at F5
  rw [e6] at F6
  rw [e7] at F7
  simp only [Int.cast_ofNat_Int] at F1 F2 F3 F4 F5 F6 F7
  clear e1 e2 e3 e4 e5 e6 e7
  go_enter Try.func10, Try.ntmps10
  go_wp2_with (go_at_call 11; (with_reducible refine (F1 _).mono ?_); rintro e w1 ⟨rfl, h1⟩; clear F1)
  go_wp2_with (go_at_call 13; (with_reducible refine (F2 _).mono ?_); rintro e w2 ⟨rfl, h2⟩; clear F2)
  replace h2 := h1.trans (h2.mono h1.size)
  clear h1
  go_wp2_with (go_at_call 13; (with_reducible refine (F3 _).mono ?_); rintro e w3 ⟨rfl, h3⟩; clear F3)
  replace h3 := h2.trans (h3.mono h2.size)
  clear h2
  go_wp2_with (go_at_call 13; (with_reducible refine (F4 _).mono ?_); rintro e w4 ⟨rfl, h4⟩; clear F4)
  replace h4 := h3.trans (h4.mono h3.size)
  clear h3
  go_wp2_with (go_at_call 17; (with_reducible refine (F5 _).mono ?_); rintro e w5 ⟨rfl, h5⟩; clear F5)
  replace h5 := h4.trans (h5.mono h4.size)
  clear h4
  go_wp2_with (go_at_call 17; (with_reducible refine (F6 _).mono ?_); rintro e w6 ⟨rfl, h6⟩; clear F6)
  replace h6 := h5.trans (h6.mono h5.size)
  clear h5
  go_wp2_with (go_at_call 15; (with_reducible refine (F7 _).mono ?_); rintro e w7 ⟨rfl, h7⟩; clear F7)
  replace h7 := h6.trans (h7.mono h6.size)
  clear h6
  go_ret
  exact ⟨rfl, h7⟩
#print axioms Try.shown_calls
end Go.Proofs
