/- The law FixedTo, as a contract. Conditions: the integers that an int holds; the table of powers of ten holds what the card lays. -/
import Derived.Test.YtfhjndldiggchaaDoorScale
import Derived.Test.YtfhjndldiggchaaDoorShown
namespace Go.Proofs
open Go.RowKit Go.Fx
attribute [local go_sem] Oper.semAt_some

theorem Tryd.good_no {m s : Int} (h : ¬ mayB m s = true) (w : World) :
    Calls Tryd.prog 15 #[.agg #[.int .i64 m, .int .i64 s]] w fun e w' => e = .returned (.bool false) ∧ w' = w.alloc (.cells #[.int .i64 m, .int .i64 s] 27) := by
  have := Tryd.good_any m s w
  simp only [Bool.not_eq_true] at h
  rw [h] at this
  exact this
theorem Tryd.good_in (m s : Int) (h0 : 0 ≤ s) (h6 : s ≤ 6) (h1 : -1000000000000 ≤ m) (h2 : m ≤ 1000000000000) (w : World) :
    Calls Tryd.prog 15 #[.agg #[.int .i64 m, .int .i64 s]] w fun e w' => e = .returned (.bool true) ∧ w' = w.alloc (.cells #[.int .i64 m, .int .i64 s] 27) := by
  have := Tryd.good_any m s w
  rw [mayB_mk h0 h6 h1 h2] at this
  exact this

set_option maxHeartbeats 1000000 in
theorem Tryd.FixedTo_not (m s k : Int) (hx : ¬ mayB m s = true) (w : World) (ht : Tab w) :
    Calls Tryd.prog 6 #[.agg #[.int .i64 m, .int .i64 s], .int .i64 k] w fun e w' => e = .returned (.bool true) ∧ Below w.heap.size w w' := by
  have HS : Hid (∀ W, Tab W → Calls Tryd.prog 10 #[] W fun e w' => e = .returned (.bool true) ∧ Below W.heap.size W w') := fun W h => Tryd.shown_any W h
  have HT := Lib.hid ht
  have HX := Lib.hid hx
  have hA := ((Below.refl _ w).alloc (Nat.le_refl _) (.cells #[.int .i64 m, .int .i64 s] 27)).alloc (by simp) (.cells #[.int .i64 m, .int .i64 s] 27)
  clear ht hx
  go_enter Tryd.func6, Tryd.ntmps6
  go_wp2_with (first | (go_at_call 15; refine (Tryd.good_no HX.out _).mono ?_; rintro e w' ⟨rfl, rfl⟩) | (go_at_call 10; refine (HS.out _ (HT.out.below hA)).mono ?_; rintro e w1 ⟨rfl, hb1⟩))
  go_ret
  exact ⟨rfl, Below.next hA (Nat.le_refl _) hb1⟩

set_option maxHeartbeats 2000000 in
theorem Tryd.FixedTo_in (m : Int) (s : Nat) (k : Int) (hx : mayB m s = true) (w : World) (ht : Tab w) :
    Calls Tryd.prog 6 #[.agg #[.int .i64 m, .int .i64 (s : Int)], .int .i64 k] w fun e w' => e = .returned (.bool true) ∧ Below w.heap.size w w' := by
  have HS : Hid (∀ W, Tab W → Calls Tryd.prog 10 #[] W fun e w' => e = .returned (.bool true) ∧ Below W.heap.size W w') := fun W h => Tryd.shown_any W h
  have HT := Lib.hid ht
  obtain ⟨a1, a2, a3, a4⟩ := mayB_of hx
  have p0 := (Pair.new w 27 (.int .i64 m) (.int .i64 (s : Int)))
  have hA := ((Below.refl _ w).alloc (Nat.le_refl _) (.cells #[.int .i64 m, .int .i64 (s : Int)] 27))
  obtain ⟨x, e, hN⟩ : ∃ x e, toN m s k = (x, e) := ⟨_, _, rfl⟩
  have hR : toR m s k = (x, e) := (to_same m s k).symm.trans hN
  have hM := to_much m s (by omega) k
  rw [hN] at hM
  have H1 : Hid (∀ W, Calls Tryd.prog 22 #[.agg #[.int .i64 m, .int .i64 (s : Int)], .int .i64 k] W fun e' w' => e' = .returned (.tuple #[.int .i64 x, .int .i64 e]) ∧ Below W.heap.size W w') := by
    intro W
    have := Tryd.To_any m s k hx W
    rwa [hN] at this
  have H2 : Hid (∀ W, Calls Tryd.prog 23 #[.agg #[.int .i64 m, .int .i64 (s : Int)], .int .i64 k] W fun e' w' => e' = .returned (.tuple #[.int .i64 x, .int .i64 e]) ∧ Below W.heap.size W w') := by
    intro W
    have := Tryd.rTo_any m s k hx W
    rwa [hR] at this
  clear hN hR ht
  by_cases he : e = 0
  · subst he
    have H3 : Hid (∀ W, Calls Tryd.prog 20 #[.agg #[.int .i64 x, .int .i64 k], .agg #[.int .i64 m, .int .i64 (s : Int)]] W fun e' w' => e' = .returned (.int .i64 0) ∧ Below W.heap.size W w') := by
      intro W
      obtain ⟨h1, h2⟩ := hM rfl
      have := Tryd.Cmp_any x k m s h1 hx W
      rwa [h2] at this
    clear hM hx
    go_enter Tryd.func6, Tryd.ntmps6
    go_wp2_with (go_at_call 15; refine (Tryd.good_in _ _ (by omega) (by omega) (by omega) (by omega) _).mono ?_; rintro e w' ⟨rfl, rfl⟩)
    have kA := Below.alloc hA (by simp) (.cells #[.int .i64 m, .int .i64 (s : Int)] 27)
    have qkA : Pair ((w.alloc (.cells #[.int .i64 m, .int .i64 (s : Int)] 27)).alloc (.cells #[.int .i64 m, .int .i64 (s : Int)] 27)) w.heap.size 27 (.int .i64 m) (.int .i64 (s : Int)) := Pair.below p0 (Below.alloc (Below.refl (w.heap.size + 1) _) (by simp) _) (by omega)
    go_wp2_with (go_at_call 10; refine (HS.out _ (HT.out.below kA)).mono ?_; rintro e' w1 ⟨rfl, hb⟩; have k1 := Below.next kA (Nat.le_refl _) hb; have qk1 := Pair.next qkA hb; have c0 := qk1.c0; have c1 := qk1.c1; clear hb)
    go_wp2_with (go_at_call 22; refine (H1.out _).mono ?_; rintro e' w2 ⟨rfl, hb⟩; have k2 := Below.next k1 (Nat.le_refl _) hb; have qk2 := Pair.next qk1 hb; clear c0 c1; have c0 := qk2.c0; have c1 := qk2.c1; clear hb)
    go_wp2_with (go_at_call 23; refine (H2.out _).mono ?_; rintro e' w3 ⟨rfl, hb⟩; have k3 := Below.next k2 (Nat.le_refl _) hb; have qk3 := Pair.next qk2 hb; clear c0 c1; have c0 := qk3.c0; have c1 := qk3.c1; clear hb)
    go_wp2_with (go_at_call 20; refine (H3.out _).mono ?_; rintro e' w4 ⟨rfl, hb⟩; have k4 := Below.next k3 (Nat.le_refl _) hb; clear hb)
    go_ret
    exact ⟨rfl, k4⟩
  · have he' : (e != 0) = true := by simpa using he
    have he2 : (e == 0) = false := by simpa using he
    clear hM hx he
    go_enter Tryd.func6, Tryd.ntmps6
    go_wp2_with (go_at_call 15; refine (Tryd.good_in _ _ (by omega) (by omega) (by omega) (by omega) _).mono ?_; rintro e w' ⟨rfl, rfl⟩)
    have kA := Below.alloc hA (by simp) (.cells #[.int .i64 m, .int .i64 (s : Int)] 27)
    have qkA : Pair ((w.alloc (.cells #[.int .i64 m, .int .i64 (s : Int)] 27)).alloc (.cells #[.int .i64 m, .int .i64 (s : Int)] 27)) w.heap.size 27 (.int .i64 m) (.int .i64 (s : Int)) := Pair.below p0 (Below.alloc (Below.refl (w.heap.size + 1) _) (by simp) _) (by omega)
    go_wp2_with (go_at_call 10; refine (HS.out _ (HT.out.below kA)).mono ?_; rintro e' w1 ⟨rfl, hb⟩; have k1 := Below.next kA (Nat.le_refl _) hb; have qk1 := Pair.next qkA hb; have c0 := qk1.c0; have c1 := qk1.c1; clear hb)
    go_wp2_with (go_at_call 22; refine (H1.out _).mono ?_; rintro e' w2 ⟨rfl, hb⟩; have k2 := Below.next k1 (Nat.le_refl _) hb; have qk2 := Pair.next qk1 hb; clear c0 c1; have c0 := qk2.c0; have c1 := qk2.c1; clear hb)
    go_wp2_with (go_at_call 23; refine (H2.out _).mono ?_; rintro e' w3 ⟨rfl, hb⟩; have k3 := Below.next k2 (Nat.le_refl _) hb; have qk3 := Pair.next qk2 hb; clear c0 c1; have c0 := qk3.c0; have c1 := qk3.c1; clear hb)
    go_ret
    exact ⟨rfl, k3⟩
theorem Tryd.FixedTo_calls (m s k : Int) (w : World) (ht : Tab w) :
    Calls Tryd.prog 6 #[.agg #[.int .i64 m, .int .i64 s], .int .i64 k] w fun e w' => e = .returned (.bool true) ∧ Below w.heap.size w w' := by
  by_cases hx : mayB m s = true
  · obtain ⟨n, rfl⟩ : ∃ n : Nat, s = (n : Int) := ⟨s.toNat, by have := mayB_of hx; omega⟩
    exact Tryd.FixedTo_in m n k hx w ht
  · exact Tryd.FixedTo_not m s k hx w ht
#print axioms Tryd.FixedTo_calls
end Go.Proofs
