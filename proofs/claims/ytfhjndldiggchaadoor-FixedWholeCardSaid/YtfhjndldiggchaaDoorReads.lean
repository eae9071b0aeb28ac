/- The laws FixedReads and FixedWhole, as contracts. Conditions: a text that a string can be; the table of powers of ten holds what the card lays. -/
import Derived.Test.YtfhjndldiggchaaDoorSame
import Derived.Test.YtfhjndldiggchaaDoorShown
namespace Go.Proofs
open Go.RowKit Go.Fx
attribute [local go_sem] Oper.semAt_some

theorem list_of (s : ByteArray) : ∃ l : List UInt8, s = ⟨l.toArray⟩ := ⟨s.data.toList, by apply ByteArray.ext; simp⟩
theorem size_of (l : List UInt8) : (⟨l.toArray⟩ : ByteArray).size = l.length := by show l.toArray.size = _; simp

set_option maxHeartbeats 1000000 in
theorem Tryd.FixedReads_calls (s : ByteArray) (w : World) (ht : Tab w) :
    Calls Tryd.prog 3 #[.string s] w fun e w' => e = .returned (.bool true) ∧ Below w.heap.size w w' := by
  have HS : Hid (∀ W, Tab W → Calls Tryd.prog 10 #[] W fun e w' => e = .returned (.bool true) ∧ Below W.heap.size W w') := fun W h => Tryd.shown_any W h
  have HT := Lib.hid ht
  clear ht
  by_cases hl : 100 < s.size
  · have hl' : (100 : Int) < (s.size : Int) := by omega
    go_enter Tryd.func3, Tryd.ntmps3
    go_wp2_with (go_at_call 10; refine (HS.out _ HT.out).mono ?_; rintro e w1 ⟨rfl, hb1⟩)
    go_ret
    exact ⟨rfl, hb1⟩
  · have hl' : ¬ (100 : Int) < (s.size : Int) := by omega
    obtain ⟨l, rfl⟩ := list_of s
    have hll : l.length ≤ 100 := by rw [size_of] at hl; omega
    obtain ⟨I, E, hI, hR⟩ : ∃ I E, ((intN l).1 = I ∧ (intN l).2.2 = E) ∧ ((intR l).1 = I ∧ (intR l).2 = E) := ⟨_, _, ⟨rfl, rfl⟩, (int_same l).1.symm, (int_same l).2.symm⟩
    obtain ⟨M, S, F, hM⟩ : ∃ M S F, readN l = (M, S, F) := ⟨_, _, _, rfl⟩
    have hN : readR l = (M, S, F) := (read_same l).symm.trans hM
    have H1 : Hid (∀ W, Calls Tryd.prog 11 #[.string ⟨l.toArray⟩] W fun e w' => e = .returned (.tuple #[.int .i64 I, .int .i64 E]) ∧ Below W.heap.size W w') := by
      intro W
      have := Tryd.Int_any l (by omega) W
      rwa [hI.1, hI.2] at this
    have H2 : Hid (∀ W, Calls Tryd.prog 12 #[.string ⟨l.toArray⟩] W fun e w' => e = .returned (.tuple #[.int .i64 I, .int .i64 E]) ∧ W = w') := by
      intro W
      have := Tryd.rInt_any ⟨l.toArray⟩ (by rw [size_of]; omega) W
      simp only [hR.1, hR.2] at this
      exact this
    have H3 : Hid (∀ W, Calls Tryd.prog 13 #[.string ⟨l.toArray⟩] W fun e w' => e = .returned (.tuple #[.agg #[.int .i64 M, .int .i64 (S : Int)], .int .i64 F]) ∧ Below W.heap.size W w') := by
      intro W
      have := Tryd.Read_any l (by omega) W
      rwa [hM] at this
    have H4 : Hid (∀ W, Calls Tryd.prog 14 #[.string ⟨l.toArray⟩] W fun e w' => e = .returned (.tuple #[.agg #[.int .i64 M, .int .i64 (S : Int)], .int .i64 F]) ∧ Below W.heap.size W w') := by
      intro W
      have := Tryd.rRead_any ⟨l.toArray⟩ (by rw [size_of]; omega) W
      simp only [hN] at this
      exact this
    clear hI hR hM hN hl
    rw [size_of] at hl'
    go_enter Tryd.func3, Tryd.ntmps3
    go_wp2_with (go_at_call 10; refine (HS.out _ HT.out).mono ?_; rintro e w1 ⟨rfl, hb1⟩)
    go_wp2_with (go_at_call 11; refine (H1.out _).mono ?_; rintro e w2 ⟨rfl, hb2⟩)
    go_wp2_with (go_at_call 12; refine (H2.out _).mono ?_; rintro e w' ⟨rfl, rfl⟩)
    go_wp2_with (go_at_call 13; refine (H3.out _).mono ?_; rintro e w3 ⟨rfl, hb3⟩; have p3 := Pair.new w3 27 (.int .i64 M) (.int .i64 (S : Int)))
    have k3 := Below.alloc (Below.next (Below.next hb1 (Nat.le_refl _) hb2) (Nat.le_refl _) hb3) (Below.next (Below.next hb1 (Nat.le_refl _) hb2) (Nat.le_refl _) hb3).size (.cells #[.int .i64 M, .int .i64 (S : Int)] 27)
    go_wp2_with (go_at_call 14; refine (H4.out _).mono ?_; rintro e w4 ⟨rfl, hb4⟩; have p4 := p3.next hb4; have c0 := p4.c0; have c1 := p4.c1; have hz := p4.lt)
    have k4 := Below.next k3 (Nat.le_refl _) hb4
    go_ret
    exact ⟨rfl, Below.alloc k4 k4.size _⟩

theorem takeN_shape (o : Option (Int × Nat × List UInt8)) : (∃ x y, fitB x = true ∧ takeN o = (x, y, 0)) ∨ takeN o = (0, 0, 2) ∨ takeN o = (0, 0, 20) := by
  match o with
  | none => exact .inr (.inr rfl)
  | some (m, s, r) =>
    simp only [takeN]
    split
    · split
      · rename_i h; exact .inl ⟨_, _, h, rfl⟩
      · exact .inr (.inl rfl)
    · exact .inr (.inr rfl)
theorem whole_same (l : List UInt8) : intN l = (0, 0, 20) ∨ (readN l = intN l ∧ ∀ x y, intN l = (x, y, 0) → y = 0) := by
  unfold intN readN
  by_cases hd : 1 ≤ (digs (tailIf 45 l)).length ∧ (digs (tailIf 45 l)).length ≤ 12
  · by_cases hr : (tailIf 45 l).drop (digs (tailIf 45 l)).length = []
    · right
      have h1 : numI l = some (sgn l * valF 0 (digs (tailIf 45 l)), 0, []) := by unfold numI; rw [if_pos hd, hr]
      have h2 : numR l = some (sgn l * valF 0 (digs (tailIf 45 l)), 0, []) := by unfold numR numT; rw [if_pos hd, hr, if_neg (show ¬ headB 46 [] = true from by simp [headB])]
      rw [h1, h2]
      refine ⟨rfl, fun x y h => ?_⟩
      rw [takeN_end] at h
      have hL : least 0 (sgn l * valF 0 (digs (tailIf 45 l))) = (sgn l * valF 0 (digs (tailIf 45 l)), 0) := rfl
      rw [hL] at h
      unfold chkL at h
      split at h
      · cases h; rfl
      · cases h
    · left
      have h1 : numI l = some (sgn l * valF 0 (digs (tailIf 45 l)), 0, (tailIf 45 l).drop (digs (tailIf 45 l)).length) := by unfold numI; rw [if_pos hd]
      rw [h1]
      exact takeN_rest hr
  · left
    have h1 : numI l = none := by unfold numI; rw [if_neg hd]
    rw [h1]
    rfl
/-- What Int and Read tell of one text, side by side. -/
def Side (I E M : Int) (S : Nat) (F : Int) : Prop :=
  (E = 0 ∧ F = 0 ∧ M = I ∧ S = 0 ∧ -100000000 ≤ I ∧ I ≤ 100000000) ∨ (E = 2 ∧ F = 2 ∧ I = 0 ∧ M = 0 ∧ S = 0) ∨ (E = 20 ∧ I = 0 ∧ F = 0) ∨ (E = 20 ∧ I = 0 ∧ F = 2 ∧ M = 0 ∧ S = 0) ∨ (E = 20 ∧ I = 0 ∧ F = 20 ∧ M = 0 ∧ S = 0)
theorem side_of (l : List UInt8) : Side (intN l).1 (intN l).2.2 (readN l).1 (readN l).2.1 (readN l).2.2 := by
  unfold Side
  rcases whole_same l with h | ⟨h, h0⟩
  · rw [h]
    rcases takeN_shape (numR l) with ⟨x, y, hf, e⟩ | e | e
    · rw [show readN l = (x, y, 0) from e]; exact .inr (.inr (.inl ⟨rfl, rfl, rfl⟩))
    · rw [show readN l = (0, 0, 2) from e]; exact .inr (.inr (.inr (.inl ⟨rfl, rfl, rfl, rfl, rfl⟩)))
    · rw [show readN l = (0, 0, 20) from e]; exact .inr (.inr (.inr (.inr ⟨rfl, rfl, rfl, rfl, rfl⟩)))
  · rw [h]
    rcases takeN_shape (numI l) with ⟨x, y, hf, e⟩ | e | e
    · have e' : intN l = (x, y, 0) := e
      have hy := h0 x y e'
      have := fitB_of hf
      rw [e', hy]
      exact .inl ⟨rfl, rfl, rfl, rfl, this.1, this.2⟩
    · rw [show intN l = (0, 0, 2) from e]; exact .inr (.inl ⟨rfl, rfl, rfl, rfl, rfl⟩)
    · rw [show intN l = (0, 0, 20) from e]; exact .inr (.inr (.inr (.inr ⟨rfl, rfl, rfl, rfl, rfl⟩)))

set_option maxHeartbeats 2000000 in
theorem Tryd.FixedWhole_calls (s : ByteArray) (w : World) (ht : Tab w) :
    Calls Tryd.prog 4 #[.string s] w fun e w' => e = .returned (.bool true) ∧ Below w.heap.size w w' := by
  have HS : Hid (∀ W, Tab W → Calls Tryd.prog 10 #[] W fun e w' => e = .returned (.bool true) ∧ Below W.heap.size W w') := fun W h => Tryd.shown_any W h
  have HT := Lib.hid ht
  clear ht
  by_cases hl : 100 < s.size
  · have hl' : (100 : Int) < (s.size : Int) := by omega
    go_enter Tryd.func4, Tryd.ntmps4
    go_wp2_with (go_at_call 10; refine (HS.out _ HT.out).mono ?_; rintro e w1 ⟨rfl, hb1⟩)
    go_ret
    exact ⟨rfl, hb1⟩
  · have hl' : ¬ (100 : Int) < (s.size : Int) := by omega
    obtain ⟨l, rfl⟩ := list_of s
    have hll : l.length ≤ 100 := by rw [size_of] at hl; omega
    have hsd := side_of l
    obtain ⟨I, Y, E, hI⟩ : ∃ I Y E, intN l = (I, Y, E) := ⟨_, _, _, rfl⟩
    obtain ⟨M, S, F, hM⟩ : ∃ M S F, readN l = (M, S, F) := ⟨_, _, _, rfl⟩
    rw [hI, hM] at hsd
    have H1 : Hid (∀ W, Calls Tryd.prog 11 #[.string ⟨l.toArray⟩] W fun e w' => e = .returned (.tuple #[.int .i64 I, .int .i64 E]) ∧ Below W.heap.size W w') := by
      intro W
      have := Tryd.Int_any l (by omega) W
      rwa [hI] at this
    have H3 : Hid (∀ W, Calls Tryd.prog 13 #[.string ⟨l.toArray⟩] W fun e w' => e = .returned (.tuple #[.agg #[.int .i64 M, .int .i64 (S : Int)], .int .i64 F]) ∧ Below W.heap.size W w') := by
      intro W
      have := Tryd.Read_any l (by omega) W
      rwa [hM] at this
    clear hI hM hl
    rw [size_of] at hl'
    rcases hsd with ⟨rfl, rfl, rfl, rfl, hi1, hi2⟩ | ⟨rfl, rfl, rfl, rfl, rfl⟩ | ⟨rfl, rfl, rfl⟩ | ⟨rfl, rfl, rfl, rfl, rfl⟩ | ⟨rfl, rfl, rfl, rfl, rfl⟩
    all_goals
      go_enter Tryd.func4, Tryd.ntmps4
      go_wp2_with (go_at_call 10; refine (HS.out _ HT.out).mono ?_; rintro e w1 ⟨rfl, hb1⟩)
      go_wp2_with (go_at_call 11; refine (H1.out _).mono ?_; rintro e w2 ⟨rfl, hb2⟩)
      have k2 := Below.next hb1 (Nat.le_refl _) hb2
      go_wp2_with (go_at_call 13; refine (H3.out _).mono ?_; rintro e w3 ⟨rfl, hb3⟩)
      go_ret
      have k3 := Below.next k2 (Nat.le_refl _) hb3
      exact ⟨rfl, Below.alloc k3 k3.size _⟩
#print axioms Tryd.FixedReads_calls
#print axioms Tryd.FixedWhole_calls
end Go.Proofs
