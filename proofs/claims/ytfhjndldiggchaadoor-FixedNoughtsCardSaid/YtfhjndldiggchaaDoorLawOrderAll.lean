/- The law FixedOrder at every three numbers, as a contract. Conditions: the table of powers of ten holds what the card lays. -/
import Derived.Test.YtfhjndldiggchaaDoorLawOrder
namespace Go.Proofs
open Go.RowKit Go.Fx
attribute [local go_sem] Oper.semAt_some

theorem Tryd.FixedOrder_in (m k u : Int) (s t v : Nat) (hx : mayB m s = true) (hy : mayB k t = true) (hz : mayB u v = true) (w : World) (ht : Tab w) :
    Calls Tryd.prog 9 #[.agg #[.int .i64 m, .int .i64 (s : Int)], .agg #[.int .i64 k, .int .i64 (t : Int)], .agg #[.int .i64 u, .int .i64 (v : Int)]] w fun e w' => e = .returned (.bool true) ∧ Below w.heap.size w w' := by
  obtain ⟨a1, a2, a3, a4⟩ := mayB_of hx
  obtain ⟨b1, b2, b3, b4⟩ := mayB_of hy
  refine Tryd.Order_walk m s k t u v (cmpN m s k t) (-cmpN m s k t) (least s m).1 (least s m).2 (least t k).1 (least t k).2 (cmpN m s u v) (cmpN k t u v) hx hy hz
    (fun W => Tryd.Cmp_any m s k t hx hy W) (fun W => ?_) (fun W => Tryd.Cmp_any k t u v hy hz W) (fun W => Tryd.Cmp_any m s u v hx hz W)
    (fun W => Tryd.Least_any m s (by omega) (by omega) (by omega) W) (fun W => Tryd.Least_any k t (by omega) (by omega) (by omega) W) (hang_of (cmp_cases m s k t) ?_ cmp_trans) w ht
  · rw [← cmp_flip]; exact Tryd.Cmp_any k t m s hy hx W
  · rw [cmp_zero (by omega) (by omega)]
    constructor
    · intro h; rw [h]; exact ⟨rfl, rfl⟩
    · intro h
      exact Prod.ext h.1 (by have := h.2; omega)

set_option maxHeartbeats 1000000 in
theorem Tryd.FixedOrder_not (m s k t u v : Int) (hn : ¬ mayB m s = true ∨ (mayB m s = true ∧ ¬ mayB k t = true) ∨ (mayB m s = true ∧ mayB k t = true ∧ ¬ mayB u v = true)) (w : World) (ht : Tab w) :
    Calls Tryd.prog 9 #[.agg #[.int .i64 m, .int .i64 s], .agg #[.int .i64 k, .int .i64 t], .agg #[.int .i64 u, .int .i64 v]] w fun e w' => e = .returned (.bool true) ∧ Below w.heap.size w w' := by
  have HS : Hid (∀ W, Tab W → Calls Tryd.prog 10 #[] W fun e w' => e = .returned (.bool true) ∧ Below W.heap.size W w') := fun W h => Tryd.shown_any W h
  have HT := Lib.hid ht
  have T0 := Three.new w (.int .i64 m) (.int .i64 s) (.int .i64 k) (.int .i64 t) (.int .i64 u) (.int .i64 v)
  have T1 := T0.alloc (.cells #[.int .i64 m, .int .i64 s] 27)
  have T2 := T1.alloc (.cells #[.int .i64 k, .int .i64 t] 27)
  have T3 := T2.alloc (.cells #[.int .i64 u, .int .i64 v] 27)
  clear ht
  rcases hn with h1 | ⟨h1, h2⟩ | ⟨h1, h2, h3⟩
  · have H1 := Lib.hid h1
    clear h1
    go_enter Tryd.func9, Tryd.ntmps9
    go_wp2_with (go_at_call 15; (with_reducible refine (Tryd.good_no H1.out _).mono ?_); rintro e w' ⟨rfl, rfl⟩)
    go_wp2_with (go_at_call 10; refine (HS.out _ (HT.out.below T1.2.2.2)).mono ?_; rintro e w1 ⟨rfl, hb⟩; have T4 := T1.next hb; clear hb)
    go_ret
    exact ⟨rfl, T4.2.2.2⟩
  · have H2 := Lib.hid h2
    obtain ⟨a1, a2, a3, a4⟩ := mayB_of h1
    have H1 : Hid (∀ W, Calls Tryd.prog 15 #[.agg #[.int .i64 m, .int .i64 s]] W fun e w' => e = .returned (.bool true) ∧ w' = W.alloc (.cells #[.int .i64 m, .int .i64 s] 27)) := fun W => Tryd.good_in m s (by omega) (by omega) (by omega) (by omega) W
    clear h1 h2
    go_enter Tryd.func9, Tryd.ntmps9
    go_wp2_with (go_at_call 15; first | ((with_reducible refine (H1.out _).mono ?_); rintro e w' ⟨rfl, rfl⟩) | ((with_reducible refine (Tryd.good_no H2.out _).mono ?_); rintro e w' ⟨rfl, rfl⟩))
    go_wp2_with (go_at_call 10; refine (HS.out _ (HT.out.below T2.2.2.2)).mono ?_; rintro e w1 ⟨rfl, hb⟩; have T4 := T2.next hb; clear hb)
    go_ret
    exact ⟨rfl, T4.2.2.2⟩
  · have H3 := Lib.hid h3
    obtain ⟨a1, a2, a3, a4⟩ := mayB_of h1
    obtain ⟨b1, b2, b3, b4⟩ := mayB_of h2
    have H1 : Hid (∀ W, Calls Tryd.prog 15 #[.agg #[.int .i64 m, .int .i64 s]] W fun e w' => e = .returned (.bool true) ∧ w' = W.alloc (.cells #[.int .i64 m, .int .i64 s] 27)) := fun W => Tryd.good_in m s (by omega) (by omega) (by omega) (by omega) W
    have H2 : Hid (∀ W, Calls Tryd.prog 15 #[.agg #[.int .i64 k, .int .i64 t]] W fun e w' => e = .returned (.bool true) ∧ w' = W.alloc (.cells #[.int .i64 k, .int .i64 t] 27)) := fun W => Tryd.good_in k t (by omega) (by omega) (by omega) (by omega) W
    clear h1 h2 h3
    go_enter Tryd.func9, Tryd.ntmps9
    go_wp2_with (go_at_call 15; first | ((with_reducible refine (H1.out _).mono ?_); rintro e w' ⟨rfl, rfl⟩) | ((with_reducible refine (H2.out _).mono ?_); rintro e w' ⟨rfl, rfl⟩) | ((with_reducible refine (Tryd.good_no H3.out _).mono ?_); rintro e w' ⟨rfl, rfl⟩))
    go_wp2_with (go_at_call 10; refine (HS.out _ (HT.out.below T3.2.2.2)).mono ?_; rintro e w1 ⟨rfl, hb⟩; have T4 := T3.next hb; clear hb)
    go_ret
    exact ⟨rfl, T4.2.2.2⟩
theorem Tryd.FixedOrder_calls (m s k t u v : Int) (w : World) (ht : Tab w) :
    Calls Tryd.prog 9 #[.agg #[.int .i64 m, .int .i64 s], .agg #[.int .i64 k, .int .i64 t], .agg #[.int .i64 u, .int .i64 v]] w fun e w' => e = .returned (.bool true) ∧ Below w.heap.size w w' := by
  by_cases h1 : mayB m s = true
  · by_cases h2 : mayB k t = true
    · by_cases h3 : mayB u v = true
      · obtain ⟨s', rfl⟩ : ∃ n : Nat, s = (n : Int) := ⟨s.toNat, by have := mayB_of h1; omega⟩
        obtain ⟨t', rfl⟩ : ∃ n : Nat, t = (n : Int) := ⟨t.toNat, by have := mayB_of h2; omega⟩
        obtain ⟨v', rfl⟩ : ∃ n : Nat, v = (n : Int) := ⟨v.toNat, by have := mayB_of h3; omega⟩
        exact Tryd.FixedOrder_in m k u s' t' v' h1 h2 h3 w ht
      · exact Tryd.FixedOrder_not m s k t u v (.inr (.inr ⟨h1, h2, h3⟩)) w ht
    · exact Tryd.FixedOrder_not m s k t u v (.inr (.inl ⟨h1, h2⟩)) w ht
  · exact Tryd.FixedOrder_not m s k t u v (.inl h1) w ht
#print axioms Tryd.FixedOrder_calls
end Go.Proofs
