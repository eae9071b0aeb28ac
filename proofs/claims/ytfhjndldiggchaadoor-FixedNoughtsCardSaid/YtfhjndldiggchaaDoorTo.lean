/- fixed.To and the document's To. Conditions: a number of which something is promised. -/
import Derived.Test.YtfhjndldiggchaaDoorCmp
namespace Go.Fx
/-- fixed.To: the number and the error. -/
def toN (m s k : Int) : Int × Int :=
  if k < 0 ∨ 6 < k then (0, 1) else
  if s ≤ k then (if fitB (m * p10 (k - s)) = true then (m * p10 (k - s), 0) else (0, 2)) else
  if m.tmod (p10 (s - k)) = 0 then (if fitB (m.tdiv (p10 (s - k))) = true then (m.tdiv (p10 (s - k)), 0) else (0, 2)) else (0, 21)
theorem fitB_of {m : Int} (h : fitB m = true) : -100000000 ≤ m ∧ m ≤ 100000000 := by simpa [fitB] using h
theorem fitB_not {m : Int} (h : ¬ fitB m = true) : m < -100000000 ∨ 100000000 < m := by
  by_cases h1 : m < -100000000
  · exact .inl h1
  · refine .inr ?_
    by_cases h2 : m ≤ 100000000
    · exact absurd (by simp [fitB]; omega) h
    · omega
theorem tdiv_bd {m t B : Int} (h1 : -B ≤ m) (h2 : m ≤ B) (ht : 1 ≤ t) : -B ≤ m.tdiv t ∧ m.tdiv t ≤ B := by
  rcases tdiv_cases m t with ⟨a, b, _⟩ | ⟨a, b, _⟩
  · have h3 : 0 ≤ m / t := Int.ediv_nonneg a (by omega)
    have h4 : m / t ≤ m := Int.ediv_le_self t a
    omega
  · have h3 : 0 ≤ (-m) / t := Int.ediv_nonneg (by omega) (by omega)
    have h4 : (-m) / t ≤ -m := Int.ediv_le_self t (by omega)
    omega
end Go.Fx
namespace Go.Proofs
open Go.RowKit Go.Fx
attribute [local go_sem] Oper.semAt_some

theorem ret_two {a b : Int} {x : Int × Int} (h : x = (a, b)) : Ending.returned (.tuple #[.int .i64 a, .int .i64 b]) = .returned (.tuple #[.int .i64 x.1, .int .i64 x.2]) := by rw [h]
theorem Tryd.fits_yes {m : Int} (h : fitB m = true) (w : World) : Calls Tryd.prog 36 #[.int .i64 m] w fun e w' => e = .returned (.bool true) ∧ w = w' := by
  have := Tryd.fits_any m w
  rw [h] at this
  exact this
theorem Tryd.fits_no {m : Int} (h : ¬ fitB m = true) (w : World) : Calls Tryd.prog 36 #[.int .i64 m] w fun e w' => e = .returned (.bool false) ∧ w = w' := by
  have := Tryd.fits_any m w
  simp only [Bool.not_eq_true] at h
  rw [h] at this
  exact this

theorem Tryd.To_arg (m s k : Int) (hk : k < 0 ∨ 6 < k) (w : World) :
    Calls Tryd.prog 22 #[.agg #[.int .i64 m, .int .i64 s], .int .i64 k] w fun e w' => e = .returned (.tuple #[.int .i64 (toN m s k).1, .int .i64 (toN m s k).2]) ∧ Below w.heap.size w w' := by
  have HT : Hid (toN m s k = (0, 1)) := by unfold Hid toN; rw [if_pos hk]
  rcases hk with h | h
  · go_enter Tryd.func22, Tryd.ntmps22
    go_wp2
    go_ret2
    exact ⟨ret_two HT.out, (Below.refl _ w).alloc (Nat.le_refl _) _⟩
  · go_enter Tryd.func22, Tryd.ntmps22
    go_wp2
    go_ret2
    exact ⟨ret_two HT.out, (Below.refl _ w).alloc (Nat.le_refl _) _⟩

set_option maxHeartbeats 400000 in
theorem Tryd.To_up (m s k : Int) (hx : mayB m s = true) (h0 : 0 ≤ k) (h6 : k ≤ 6) (hk : s ≤ k) (w : World) :
    Calls Tryd.prog 22 #[.agg #[.int .i64 m, .int .i64 s], .int .i64 k] w fun e w' => e = .returned (.tuple #[.int .i64 (toN m s k).1, .int .i64 (toN m s k).2]) ∧ Below w.heap.size w w' := by
  obtain ⟨a1, a2, a3, a4⟩ := mayB_of hx
  clear hx
  have e1 : IntKind.i64.wrap (k - s) = k - s := IntWalk.i64_in _ (by omega)
  have sb : -1000000000000000000 ≤ m * p10 (k - s) ∧ m * p10 (k - s) ≤ 1000000000000000000 := by
    have := scale_bd (s := s + 6 - k) (by omega) (by omega) a3 a4
    rwa [show 6 - (s + 6 - k) = k - s from by omega] at this
  obtain ⟨x, hx⟩ : ∃ x, x = m * p10 (k - s) := ⟨_, rfl⟩
  have hw : wrap64 (m * p10 (k - s)) = x := by rw [hx]; unfold wrap64; omega
  by_cases hf : fitB x = true
  · have HT : Hid (toN m s k = (x, 0)) := by unfold Hid toN; rw [if_neg (by omega), if_pos hk, ← hx, if_pos hf]
    have HF := Lib.hid hf
    clear hx hf sb
    go_enter Tryd.func22, Tryd.ntmps22
    go_wp2_with (first | (go_at_call 32; refine (Tryd.may_in _ _ (by omega) (by omega) (by omega) (by omega) _).mono ?_; rintro e w' ⟨rfl, rfl⟩) | (go_at_call 33; refine (Tryd.tens_int _ (by omega) (by omega) _).mono ?_; rintro e w' ⟨rfl, rfl⟩) | (go_at_call 36; refine (Tryd.fits_yes HF.out _).mono ?_; rintro e w' ⟨rfl, rfl⟩))
    go_ret2
    exact ⟨ret_two HT.out, ((Below.refl _ w).alloc (Nat.le_refl _) _).alloc (by simp) _⟩
  · have HT : Hid (toN m s k = (0, 2)) := by unfold Hid toN; rw [if_neg (by omega), if_pos hk, ← hx, if_neg hf]
    have HF := Lib.hid hf
    clear hx hf sb
    go_enter Tryd.func22, Tryd.ntmps22
    go_wp2_with (first | (go_at_call 32; refine (Tryd.may_in _ _ (by omega) (by omega) (by omega) (by omega) _).mono ?_; rintro e w' ⟨rfl, rfl⟩) | (go_at_call 33; refine (Tryd.tens_int _ (by omega) (by omega) _).mono ?_; rintro e w' ⟨rfl, rfl⟩) | (go_at_call 36; refine (Tryd.fits_no HF.out _).mono ?_; rintro e w' ⟨rfl, rfl⟩))
    go_ret2
    exact ⟨ret_two HT.out, ((Below.refl _ w).alloc (Nat.le_refl _) _).alloc (by simp) _⟩

set_option maxHeartbeats 400000 in
theorem Tryd.To_down (m s k : Int) (hx : mayB m s = true) (h0 : 0 ≤ k) (h6 : k ≤ 6) (hk : k < s) (w : World) :
    Calls Tryd.prog 22 #[.agg #[.int .i64 m, .int .i64 s], .int .i64 k] w fun e w' => e = .returned (.tuple #[.int .i64 (toN m s k).1, .int .i64 (toN m s k).2]) ∧ Below w.heap.size w w' := by
  obtain ⟨a1, a2, a3, a4⟩ := mayB_of hx
  clear hx
  have e1 : IntKind.i64.wrap (s - k) = s - k := IntWalk.i64_in _ (by omega)
  have hp := p10_pos (s - k)
  have hp0 : (p10 (s - k) == 0) = false := by simp; omega
  by_cases hz : m.tmod (p10 (s - k)) = 0
  · have hz' : (m.tmod (p10 (s - k)) == 0) = true := by simpa using hz
    by_cases hf : fitB (m.tdiv (p10 (s - k))) = true
    · have HT : Hid (toN m s k = (m.tdiv (p10 (s - k)), 0)) := by unfold Hid toN; rw [if_neg (by omega), if_neg (by omega), if_pos hz, if_pos hf]
      have HF := Lib.hid hf
      clear hf hz
      go_enter Tryd.func22, Tryd.ntmps22
      go_wp2_with (first | (go_at_call 32; refine (Tryd.may_in _ _ (by omega) (by omega) (by omega) (by omega) _).mono ?_; rintro e w' ⟨rfl, rfl⟩) | (go_at_call 33; refine (Tryd.tens_int _ (by omega) (by omega) _).mono ?_; rintro e w' ⟨rfl, rfl⟩) | (go_at_call 36; refine (Tryd.fits_yes HF.out _).mono ?_; rintro e w' ⟨rfl, rfl⟩))
      go_ret2
      exact ⟨ret_two HT.out, ((Below.refl _ w).alloc (Nat.le_refl _) _).alloc (by simp) _⟩
    · have HT : Hid (toN m s k = (0, 2)) := by unfold Hid toN; rw [if_neg (by omega), if_neg (by omega), if_pos hz, if_neg hf]
      have HF := Lib.hid hf
      clear hf hz
      go_enter Tryd.func22, Tryd.ntmps22
      go_wp2_with (first | (go_at_call 32; refine (Tryd.may_in _ _ (by omega) (by omega) (by omega) (by omega) _).mono ?_; rintro e w' ⟨rfl, rfl⟩) | (go_at_call 33; refine (Tryd.tens_int _ (by omega) (by omega) _).mono ?_; rintro e w' ⟨rfl, rfl⟩) | (go_at_call 36; refine (Tryd.fits_no HF.out _).mono ?_; rintro e w' ⟨rfl, rfl⟩))
      go_ret2
      exact ⟨ret_two HT.out, ((Below.refl _ w).alloc (Nat.le_refl _) _).alloc (by simp) _⟩
  · have hz' : (m.tmod (p10 (s - k)) == 0) = false := by simpa using hz
    have HT : Hid (toN m s k = (0, 21)) := by unfold Hid toN; rw [if_neg (by omega), if_neg (by omega), if_neg hz]
    clear hz
    go_enter Tryd.func22, Tryd.ntmps22
    go_wp2_with (first | (go_at_call 32; refine (Tryd.may_in _ _ (by omega) (by omega) (by omega) (by omega) _).mono ?_; rintro e w' ⟨rfl, rfl⟩) | (go_at_call 33; refine (Tryd.tens_int _ (by omega) (by omega) _).mono ?_; rintro e w' ⟨rfl, rfl⟩))
    go_ret2
    exact ⟨ret_two HT.out, ((Below.refl _ w).alloc (Nat.le_refl _) _).alloc (by simp) _⟩

theorem Tryd.To_any (m s k : Int) (hx : mayB m s = true) (w : World) :
    Calls Tryd.prog 22 #[.agg #[.int .i64 m, .int .i64 s], .int .i64 k] w fun e w' => e = .returned (.tuple #[.int .i64 (toN m s k).1, .int .i64 (toN m s k).2]) ∧ Below w.heap.size w w' := by
  by_cases h : k < 0 ∨ 6 < k
  · exact Tryd.To_arg m s k h w
  · by_cases hs : s ≤ k
    · exact Tryd.To_up m s k hx (by omega) (by omega) hs w
    · exact Tryd.To_down m s k hx (by omega) (by omega) (by omega) w
#print axioms Tryd.To_any
end Go.Proofs
