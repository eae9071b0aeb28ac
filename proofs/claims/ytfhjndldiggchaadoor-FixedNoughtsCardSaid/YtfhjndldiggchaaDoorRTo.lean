/- The document's To. Conditions: a number of which something is promised. -/
import Derived.Test.YtfhjndldiggchaaDoorTo
namespace Go.Fx
/-- The document's To: the number and the error. -/
def toR (m : Int) (s : Nat) (k : Int) : Int × Int :=
  if k < 0 ∨ 6 < k then (0, 1) else
  if k < ((least s m).2 : Int) then (0, 21) else
  if fitB ((least s m).1 * p10 (k - (least s m).2)) = true then ((least s m).1 * p10 (k - (least s m).2), 0) else (0, 2)
theorem least_bd {B : Int} (s : Nat) (m : Int) (h1 : -B ≤ m) (h2 : m ≤ B) : -B ≤ (least s m).1 ∧ (least s m).1 ≤ B := by
  induction s generalizing m with
  | zero => exact ⟨h1, h2⟩
  | succ s ih =>
    unfold least
    split
    · have := tdiv_bd (t := 10) h1 h2 (by omega)
      exact ih _ this.1 this.2
    · exact ⟨h1, h2⟩
end Go.Fx
namespace Go.Proofs
open Go.RowKit Go.Fx
attribute [local go_sem] Oper.semAt_some

theorem Tryd.rTo_arg (m s k : Int) (hk : k < 0 ∨ 6 < k) (w : World) :
    Calls Tryd.prog 23 #[.agg #[.int .i64 m, .int .i64 s], .int .i64 k] w fun e w' => e = .returned (.tuple #[.int .i64 0, .int .i64 1]) ∧ Below w.heap.size w w' := by
  rcases hk with h | h
  · go_enter Tryd.func23, Tryd.ntmps23
    go_wp2
    go_ret2
    exact ⟨rfl, (Below.refl _ w).alloc (Nat.le_refl _) _⟩
  · go_enter Tryd.func23, Tryd.ntmps23
    go_wp2
    go_ret2
    exact ⟨rfl, (Below.refl _ w).alloc (Nat.le_refl _) _⟩

set_option maxHeartbeats 400000 in
theorem Tryd.rTo_low (m : Int) (s : Nat) (k a : Int) (b : Nat) (hx : mayB m s = true) (h0 : 0 ≤ k) (h6 : k ≤ 6) (hl : least s m = (a, b)) (hb : k < (b : Int)) (w : World) :
    Calls Tryd.prog 23 #[.agg #[.int .i64 m, .int .i64 (s : Int)], .int .i64 k] w fun e w' => e = .returned (.tuple #[.int .i64 0, .int .i64 21]) ∧ Below w.heap.size w w' := by
  obtain ⟨a1, a2, a3, a4⟩ := mayB_of hx
  clear hx
  have HC : ∀ W, Calls Tryd.prog 19 #[.agg #[.int .i64 m, .int .i64 (s : Int)]] W fun e w' => e = .returned (.agg #[.int .i64 a, .int .i64 (b : Int)]) ∧ Below W.heap.size W w' := by
    intro W
    have := Tryd.rLeast_any m s (by omega) (by omega) (by omega) W
    rwa [hl] at this
  clear hl
  have H := Lib.hid HC
  clear HC
  go_enter Tryd.func23, Tryd.ntmps23
  go_wp2_with (go_at_call 19; refine (H.out _).mono ?_; rintro e w1 ⟨rfl, hb1⟩; obtain ⟨hc, hf⟩ := bcell hb1; have hz : w.heap.size < w1.heap.size := by have := hb1.size; simp at this; omega)
  go_ret2
  exact ⟨rfl, ((((Below.refl _ w).alloc (Nat.le_refl _) _).trans (hb1.mono (by simp))).setCell (by simp) _).setCell (by simp) _⟩

set_option maxHeartbeats 400000 in
theorem Tryd.rTo_high (m : Int) (s : Nat) (k a : Int) (b : Nat) (hx : mayB m s = true) (h0 : 0 ≤ k) (h6 : k ≤ 6) (hl : least s m = (a, b)) (hb : (b : Int) ≤ k) (w : World) :
    Calls Tryd.prog 23 #[.agg #[.int .i64 m, .int .i64 (s : Int)], .int .i64 k] w fun e w' => e = .returned (.tuple #[.int .i64 (if fitB (a * p10 (k - b)) = true then a * p10 (k - b) else 0), .int .i64 (if fitB (a * p10 (k - b)) = true then 0 else 2)]) ∧ Below w.heap.size w w' := by
  obtain ⟨a1, a2, a3, a4⟩ := mayB_of hx
  clear hx
  have ab : -1000000000000 ≤ a ∧ a ≤ 1000000000000 := by have := least_bd (B := 1000000000000) s m (by omega) (by omega); rw [hl] at this; exact this
  have HC : ∀ W, Calls Tryd.prog 19 #[.agg #[.int .i64 m, .int .i64 (s : Int)]] W fun e w' => e = .returned (.agg #[.int .i64 a, .int .i64 (b : Int)]) ∧ Below W.heap.size W w' := by
    intro W
    have := Tryd.rLeast_any m s (by omega) (by omega) (by omega) W
    rwa [hl] at this
  clear hl
  have H := Lib.hid HC
  clear HC
  have e1 : IntKind.i64.wrap (k - (b : Int)) = k - b := IntWalk.i64_in _ (by omega)
  have sb : -1000000000000000000 ≤ a * p10 (k - b) ∧ a * p10 (k - b) ≤ 1000000000000000000 := by
    have := scale_bd (s := b + 6 - k) (by omega) (by omega) ab.1 ab.2
    rwa [show 6 - ((b : Int) + 6 - k) = k - b from by omega] at this
  obtain ⟨x, hx⟩ : ∃ x, x = a * p10 (k - b) := ⟨_, rfl⟩
  have hw : Hid (wrap64 (a * p10 (k - b)) = x) := by rw [← hx] at sb ⊢; unfold Hid wrap64; omega
  rw [← hx]
  clear hx sb
  have hb' : decide (k < (b : Int)) = false := decide_eq_false (by omega)
  go_enter Tryd.func23, Tryd.ntmps23
  go_wp2_with (go_at_call 19; refine (H.out _).mono ?_; rintro e w1 ⟨rfl, hb1⟩; obtain ⟨hc, hf⟩ := bcell hb1; have hz : w.heap.size < w1.heap.size := by have := hb1.size; simp at this; omega)
  go_quiet ((go_at_call 31; exact quiet_left (Tryd.rtens_int _ (by omega) (by omega) _)))
  rw [hw.out]
  by_cases hF : fitB x = true
  · have F := Lib.hid hF
    have hx := fitB_of hF
    clear hF
    go_wp2
    go_ret2
    exact ⟨(by first | rfl | (rw [if_pos F.out, if_pos F.out])), below_drewN (((((Below.refl _ w).alloc (Nat.le_refl _) _).trans (hb1.mono (by simp))).setCell (by simp) _).setCell (by simp) _) _⟩
  · have F := Lib.hid hF
    have hx := fitB_not hF
    clear hF
    rcases hx with hx | hx
    · go_wp2
      go_ret2
      exact ⟨(by first | rfl | (rw [if_neg F.out, if_neg F.out])), below_drewN (((((Below.refl _ w).alloc (Nat.le_refl _) _).trans (hb1.mono (by simp))).setCell (by simp) _).setCell (by simp) _) _⟩
    · go_wp2
      go_ret2
      exact ⟨(by first | rfl | (rw [if_neg F.out, if_neg F.out])), below_drewN (((((Below.refl _ w).alloc (Nat.le_refl _) _).trans (hb1.mono (by simp))).setCell (by simp) _).setCell (by simp) _) _⟩

theorem Tryd.rTo_any (m : Int) (s : Nat) (k : Int) (hx : mayB m s = true) (w : World) :
    Calls Tryd.prog 23 #[.agg #[.int .i64 m, .int .i64 (s : Int)], .int .i64 k] w fun e w' => e = .returned (.tuple #[.int .i64 (toR m s k).1, .int .i64 (toR m s k).2]) ∧ Below w.heap.size w w' := by
  by_cases h : k < 0 ∨ 6 < k
  · have hT : toR m s k = (0, 1) := by unfold toR; rw [if_pos h]
    rw [hT]
    exact Tryd.rTo_arg m s k h w
  · by_cases hb : k < ((least s m).2 : Int)
    · have hT : toR m s k = (0, 21) := by unfold toR; rw [if_neg h, if_pos hb]
      rw [hT]
      exact Tryd.rTo_low m s k _ _ hx (by omega) (by omega) rfl hb w
    · have := Tryd.rTo_high m s k _ _ hx (by omega) (by omega) rfl (by omega) w
      unfold toR
      rw [if_neg h, if_neg hb]
      split
      · rename_i hF; rw [if_pos hF, if_pos hF] at this; exact this
      · rename_i hF; rw [if_neg hF, if_neg hF] at this; exact this
#print axioms Tryd.rTo_any
end Go.Proofs
