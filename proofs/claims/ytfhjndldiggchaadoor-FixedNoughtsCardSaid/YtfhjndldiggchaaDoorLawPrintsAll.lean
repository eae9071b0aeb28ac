/- The law FixedPrints at every two numbers, as a contract. Conditions: the table of powers of ten holds what the card lays. -/
import Derived.Test.YtfhjndldiggchaaDoorLawPrints
namespace Go.Proofs
open Go.RowKit Go.Fx
attribute [local go_sem] Oper.semAt_some

theorem Tryd.FixedPrints_in (m k : Int) (s t : Nat) (hx : mayB m s = true) (hy : mayB k t = true) (w : World) (ht : Tab w) :
    Calls Tryd.prog 5 #[.agg #[.int .i64 m, .int .i64 (s : Int)], .agg #[.int .i64 k, .int .i64 (t : Int)]] w fun e w' => e = .returned (.bool true) ∧ Below w.heap.size w w' := by
  obtain ⟨a1, a2, a3, a4⟩ := mayB_of hx
  exact Tryd.Prints_walk m s k t (cmpN m s k t) (least s m).1 ((least s m).2 : Int) (printN m s) hx hy
    (fun W h => Tryd.Print_any m s hx W h) (fun W => Tryd.rPrint_any m s hx W)
    (fun W => Tryd.Least_any m s (by omega) (by omega) (by omega) W) (fun W => Tryd.rLeast_any m s (by omega) (by omega) (by omega) W)
    (fun W => Tryd.Cmp_any m s k t hx hy W) (fun W => Tryd.rCmp_any m s k t hx hy W) w ht

set_option maxHeartbeats 1000000 in
theorem Tryd.FixedPrints_not (m s k t : Int) (hn : ¬ mayB m s = true ∨ (mayB m s = true ∧ ¬ mayB k t = true)) (w : World) (ht : Tab w) :
    Calls Tryd.prog 5 #[.agg #[.int .i64 m, .int .i64 s], .agg #[.int .i64 k, .int .i64 t]] w fun e w' => e = .returned (.bool true) ∧ Below w.heap.size w w' := by
  have HS : Hid (∀ W, Tab W → Calls Tryd.prog 10 #[] W fun e w' => e = .returned (.bool true) ∧ Below W.heap.size W w') := fun W h => Tryd.shown_any W h
  have HT := Lib.hid ht
  have T0 := Two.new w (.int .i64 m) (.int .i64 s) (.int .i64 k) (.int .i64 t)
  have T1 := T0.alloc (.cells #[.int .i64 m, .int .i64 s] 27)
  have T2 := T1.alloc (.cells #[.int .i64 k, .int .i64 t] 27)
  clear ht
  rcases hn with h1 | ⟨h1, h2⟩
  · have H1 := Lib.hid h1
    clear h1
    go_enter Tryd.func5, Tryd.ntmps5
    go_wp2_with (go_at_call 15; (with_reducible refine (Tryd.good_no H1.out _).mono ?_); rintro e w' ⟨rfl, rfl⟩)
    go_wp2_with (go_at_call 10; refine (HS.out _ (HT.out.below T1.2.2)).mono ?_; rintro e w1 ⟨rfl, hb⟩; have T4 := T1.next hb; clear hb)
    go_ret
    exact ⟨rfl, T4.2.2⟩
  · have H2 := Lib.hid h2
    obtain ⟨a1, a2, a3, a4⟩ := mayB_of h1
    have H1 : Hid (∀ W, Calls Tryd.prog 15 #[.agg #[.int .i64 m, .int .i64 s]] W fun e w' => e = .returned (.bool true) ∧ w' = W.alloc (.cells #[.int .i64 m, .int .i64 s] 27)) := fun W => Tryd.good_in m s (by omega) (by omega) (by omega) (by omega) W
    clear h1 h2
    go_enter Tryd.func5, Tryd.ntmps5
    go_wp2_with (go_at_call 15; first | ((with_reducible refine (H1.out _).mono ?_); rintro e w' ⟨rfl, rfl⟩) | ((with_reducible refine (Tryd.good_no H2.out _).mono ?_); rintro e w' ⟨rfl, rfl⟩))
    go_wp2_with (go_at_call 10; refine (HS.out _ (HT.out.below T2.2.2)).mono ?_; rintro e w1 ⟨rfl, hb⟩; have T4 := T2.next hb; clear hb)
    go_ret
    exact ⟨rfl, T4.2.2⟩
theorem Tryd.FixedPrints_calls (m s k t : Int) (w : World) (ht : Tab w) :
    Calls Tryd.prog 5 #[.agg #[.int .i64 m, .int .i64 s], .agg #[.int .i64 k, .int .i64 t]] w fun e w' => e = .returned (.bool true) ∧ Below w.heap.size w w' := by
  by_cases h1 : mayB m s = true
  · by_cases h2 : mayB k t = true
    · obtain ⟨s', rfl⟩ : ∃ n : Nat, s = (n : Int) := ⟨s.toNat, by have := mayB_of h1; omega⟩
      obtain ⟨t', rfl⟩ : ∃ n : Nat, t = (n : Int) := ⟨t.toNat, by have := mayB_of h2; omega⟩
      exact Tryd.FixedPrints_in m k s' t' h1 h2 w ht
    · exact Tryd.FixedPrints_not m s k t (.inr ⟨h1, h2⟩) w ht
  · exact Tryd.FixedPrints_not m s k t (.inl h1) w ht
#print axioms Tryd.FixedPrints_calls
end Go.Proofs
