/- The law CursorBack of this program, as a contract. Conditions: both numbers are of the kind uint16. -/
import Derived.Test.YtokbhkedmfbgjaaShown
import Derived.Test.YtokbhkedmfbgjaaPlaces
namespace Go.Proofs
open Go.RowKit Go.Shelf Go.Cur

/-- What the three calls of the law answer, at the two places i and k. -/
theorem back_calls (s : ByteArray) (i k : Int) (hs : s.size ≤ 2000) (h0 : 0 ≤ i) (h1 : i ≤ k) (h2 : k ≤ s.size) : ∃ A B C D : Int,
    (∀ w, Calls Try.prog 18 #[.string s, .int .i64 i] w fun e w' => e = .returned (.tuple #[.int .i64 A, .int .i64 B, .int .i64 0]) ∧ Below w.heap.size w w') ∧
    (∀ w, Calls Try.prog 18 #[.string s, .int .i64 k] w fun e w' => e = .returned (.tuple #[.int .i64 C, .int .i64 D, .int .i64 0]) ∧ Below w.heap.size w w') ∧
    (∀ w, Calls Try.prog 20 #[.string s, .int .i64 A, .int .i64 B] w fun e w' => e = .returned (.tuple #[.int .i64 i, .int .i64 0]) ∧ Below w.heap.size w w') ∧
    1 ≤ A ∧ 1 ≤ B ∧ (i = k ∨ A < C ∨ (A = C ∧ B < D)) := by
  obtain ⟨i, rfl⟩ := Int.eq_ofNat_of_zero_le h0
  obtain ⟨k, rfl⟩ := Int.eq_ofNat_of_zero_le (Int.le_trans h0 h1)
  have hl : s.data.toList.length = s.size := by simp
  obtain ⟨A, B, C, D, g1, g2, g3, g4, g5, g6, g7, g8, g9⟩ := back s.data.toList i k (by omega) (by omega)
  refine ⟨A, B, C, D, fun w => ?_, fun w => ?_, fun w => ?_, g4, g5, g9.imp (fun h => by rw [h]) id⟩
  · have := Try.Where_calls s i w (by omega) (by omega) (by omega)
    rw [g1] at this; exact this
  · have := Try.Where_calls s k w (by omega) (by omega) (by omega)
    rw [g2] at this; exact this
  · have := Try.Place_calls s A B w (by omega) g5 (by omega)
    rw [g3] at this; exact this

theorem two_below {w0 w1 w2 w3 w4 : World} (h1 : Below w0.heap.size w0 w1) (h2 : Below w1.heap.size w1 w2) (h3 : Below w2.heap.size w2 w3) (h4 : Below w3.heap.size w3 w4) : Below w0.heap.size w0 w4 :=
  ((h1.trans (h2.mono h1.size)).trans (h3.mono (Nat.le_trans h1.size h2.size))).trans (h4.mono (Nat.le_trans h1.size (Nat.le_trans h2.size h3.size)))

set_option maxRecDepth 100000 in
set_option maxHeartbeats 2000000 in
theorem Try.CursorBack_calls (s : ByteArray) (a b : Int) (ha : 0 ≤ a) (ha9 : a ≤ 65535) (hb : 0 ≤ b) (hb9 : b ≤ 65535) (w : World) (hs : s.size ≤ maxLen) :
    Calls Try.prog 5 #[.string s, .int .u16 a, .int .u16 b] w fun e w' => e = .returned (.bool true) ∧ Below w.heap.size w w' := by
  unfold maxLen at hs
  by_cases hbig : 2000 < s.size
  · have hd : decide ((2000 : Int) < (s.size : Int)) = true := decide_eq_true (by omega)
    clear hbig
    go_enter Try.func5, Try.ntmps5
    go_wp2_with (go_at_call 9; refine (Try.shown_calls _).mono ?_; rintro e w1 ⟨rfl, hb1⟩)
    go_ret
    exact ⟨rfl, hb1⟩
  · have hd : decide ((2000 : Int) < (s.size : Int)) = false := decide_eq_false (by omega)
    have hs2 : (s.size : Int) ≤ 2000 := by omega
    have hs0 : 0 ≤ (s.size : Int) := by omega
    obtain ⟨m, M, hm0, hM0, hM9, hmM⟩ : ∃ m M : Int, 0 ≤ m ∧ 0 ≤ M ∧ M ≤ 65535 ∧ ((a < b ∧ a = m ∧ b = M) ∨ (b < a ∧ b = m ∧ a = M) ∨ (a = m ∧ b = m ∧ M = m)) := by
      rcases Int.lt_trichotomy a b with h | h | h
      · exact ⟨a, b, ha, hb, hb9, .inl ⟨h, rfl, rfl⟩⟩
      · exact ⟨a, a, ha, ha, ha9, .inr (.inr ⟨rfl, h.symm, rfl⟩)⟩
      · exact ⟨b, a, hb, ha, ha9, .inr (.inl ⟨h, rfl, rfl⟩)⟩
    have i0 : 0 ≤ m % ((s.size : Int) + 1) := Int.emod_nonneg _ (by omega)
    have i9 : m % ((s.size : Int) + 1) ≤ (s.size : Int) := by have := Int.emod_lt_of_pos m (show 0 < (s.size : Int) + 1 by omega); omega
    have r0 : 0 ≤ M % ((s.size : Int) - m % ((s.size : Int) + 1) + 1) := Int.emod_nonneg _ (by omega)
    have r9 : M % ((s.size : Int) - m % ((s.size : Int) + 1) + 1) ≤ (s.size : Int) - m % ((s.size : Int) + 1) := by
      have := Int.emod_lt_of_pos M (show 0 < (s.size : Int) - m % ((s.size : Int) + 1) + 1 by omega); omega
    obtain ⟨A, B, C, D, k1, k2, k3, gA, gB, gd⟩ := back_calls s (m % ((s.size : Int) + 1)) (m % ((s.size : Int) + 1) + M % ((s.size : Int) - m % ((s.size : Int) + 1) + 1)) (by omega) i0 (by omega) (by omega)
    have K1 := Lib.hid k1
    have K2 := Lib.hid k2
    have K3 := Lib.hid k3
    have gd2 : (∃ bb : Bool, (m % ((s.size : Int) + 1) == m % ((s.size : Int) + 1) + M % ((s.size : Int) - m % ((s.size : Int) + 1) + 1)) = bb ∧ (bb = true ∨ (bb = false ∧ A < C) ∨ (bb = false ∧ A = C ∧ B < D))) := by
      refine ⟨_, rfl, ?_⟩
      rcases gd with h | h | h
      · exact .inl (beq_iff_eq.2 h)
      · cases hq : (m % ((s.size : Int) + 1) == m % ((s.size : Int) + 1) + M % ((s.size : Int) - m % ((s.size : Int) + 1) + 1)) with
        | true => exact .inl rfl
        | false => exact .inr (.inl ⟨rfl, h⟩)
      · cases hq : (m % ((s.size : Int) + 1) == m % ((s.size : Int) + 1) + M % ((s.size : Int) - m % ((s.size : Int) + 1) + 1)) with
        | true => exact .inl rfl
        | false => exact .inr (.inr ⟨rfl, h⟩)
    clear hbig k1 k2 k3 gd ha9 hb9 ha hb
    obtain ⟨bb, hbb, gd3⟩ := gd2
    rcases gd3 with rfl | ⟨rfl, hAC⟩ | ⟨rfl, rfl, hBD⟩
    all_goals
      rcases hmM with ⟨hlt, rfl, rfl⟩ | ⟨hlt, rfl, rfl⟩ | ⟨rfl, hlt, rfl⟩
      all_goals
        try subst hlt
        go_enter Try.func5, Try.ntmps5
        go_wp2_with (go_at_call 9; refine (Try.shown_calls _).mono ?_; rintro e w1 ⟨rfl, hb1⟩)
        refine (K1.out _).mono ?_
        rintro e w2 ⟨rfl, hb2⟩
        go_wp2_with (fail)
        refine (K2.out _).mono ?_
        rintro e w3 ⟨rfl, hb3⟩
        go_wp2_with (fail)
        refine (K3.out _).mono ?_
        rintro e w4 ⟨rfl, hb4⟩
        go_wp2_with (fail)
        go_ret
        exact ⟨rfl, two_below hb1 hb2 hb3 hb4⟩
#print axioms Try.CursorBack_calls
end Go.Proofs
