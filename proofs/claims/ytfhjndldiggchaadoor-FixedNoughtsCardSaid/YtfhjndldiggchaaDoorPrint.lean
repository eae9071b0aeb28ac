/- fixed.Print. Conditions: a number of which something is promised; the table of powers of ten holds what the card lays. -/
import Derived.Test.YtfhjndldiggchaaDoorTake
import Derived.Lib.LaidTab
import Derived.Lib.ItoaLen
namespace Go.Fx
/-- The text of a divided by 10 to the s. -/
def printA (a s : Nat) : List UInt8 := Lib.decDigits (a / 10 ^ s) ++ (if s = 0 then [] else 46 :: (Lib.decDigits (10 ^ s + a % 10 ^ s)).drop 1)
def printN (m : Int) (s : Nat) : List UInt8 := (if m < 0 then [45] else []) ++ printA m.natAbs s
end Go.Fx
namespace Go.Proofs
open Go.RowKit Go.Fx Go.Sort
attribute [local go_sem] Oper.semAt_some

/-- The table of powers of ten holds what the card lays. -/
def Tab (w : World) : Prop := Lib.TabIs Tryd.prog w "internal/strconv.uint64pow10" .u64 Lib.pow10Tab
theorem Tab.below {w w' : World} (h : Tab w) (hb : Below w.heap.size w w') : Tab w' := by
  unfold Tab Lib.TabIs World.var? at h ⊢
  cases hg : Tryd.prog.globalNamed "internal/strconv.uint64pow10" with
  | none => rw [hg] at h; cases h
  | some g =>
    rw [hg] at h
    simp only [Option.bind_some] at h ⊢
    have hlt : g < w.heap.size := by
      rcases Nat.lt_or_ge g w.heap.size with h' | h'
      · exact h'
      · rw [Array.getElem?_eq_none h'] at h; cases h
    rw [hb.block g hlt]
    exact h
theorem below_grow (w : World) (n : Nat) (os : Array Obj) : Below w.heap.size w (grow (w.drewN n) os) :=
  ⟨rfl, rfl, rfl, by simp [grow], fun k hk => by simp only [grow]; rw [Array.getElem?_append_left (by simpa using hk)]; simp⟩
theorem Tryd.itoa_nat (n : Nat) (hn : n ≤ 9223372036854775807) (w : World) (ht : Tab w) :
    Calls Tryd.prog 34 #[.int .i64 (n : Int)] w fun e w' => e = .returned (.string ⟨(Lib.decDigits n).toArray⟩) ∧ Below w.heap.size w w' := by
  refine (Tryd.strconv_Itoa n (by omega) (by omega) w ht).mono fun e w' ⟨he, k, os, hw⟩ => ?_
  subst hw
  rw [Lib.itoa_nonneg] at he
  exact ⟨he, below_grow w k os⟩

theorem div_wrap (a t : Nat) (ha : a ≤ 1000000000000) : wrap64 ((a : Int) / (t : Int)) = ((a / t : Nat) : Int) := by
  have h1 : ((a : Int) / (t : Int)) = ((a / t : Nat) : Int) := (Int.natCast_ediv a t).symm
  rw [h1]
  have h2 : a / t ≤ a := Nat.div_le_self a t
  generalize a / t = q at h2 ⊢
  unfold wrap64
  omega
theorem cat (x y : List UInt8) : (⟨x.toArray⟩ : ByteArray) ++ ⟨y.toArray⟩ = ⟨(x ++ y).toArray⟩ := by
  apply ByteArray.ext
  simp
theorem cat_tail (P D E : List UInt8) (n : Nat) (hn : E.length = n) : (⟨P.toArray⟩ : ByteArray) ++ ⟨D.toArray⟩ ++ ⟨#[46]⟩ ++ (⟨E.toArray⟩ : ByteArray).extract 1 n = ⟨(P ++ (D ++ 46 :: E.drop 1)).toArray⟩ := by
  subst hn
  apply ByteArray.ext
  apply Array.ext'
  simp [List.take_of_length_le]
theorem dec_len (n : Nat) (hn : n ≤ 9223372036854775807) : 1 ≤ (Lib.decDigits n).length ∧ (Lib.decDigits n).length ≤ 21 := by
  have h := Lib.itoa_length_le (n : Int) (by omega) (by omega)
  rw [Lib.itoa_nonneg] at h
  refine ⟨?_, h⟩
  rw [Lib.decDigits_length]
  unfold Lib.nDigits
  split <;> omega
/-- A text of this function, at a number whose parts are known. -/
def Txt (n : Int) (D : List UInt8) : Prop := ∀ W, Tab W → Calls Tryd.prog 34 #[.int .i64 n] W fun e w' => e = .returned (.string ⟨D.toArray⟩) ∧ Below W.heap.size W w'
set_option maxHeartbeats 400000 in
theorem Tryd.Print_pos (a s t q r : Nat) (D E : List UInt8) (ha : a ≤ 1000000000000) (hs : s ≤ 6) (ht0 : t = 10 ^ s) (hq0 : q = a / t) (hr0 : r = t + a % t) (hD : D = Lib.decDigits q) (hE : E = Lib.decDigits r) (w : World) (ht : Tab w) :
    Calls Tryd.prog 16 #[.agg #[.int .i64 (a : Int), .int .i64 (s : Int)]] w fun e w' => e = .returned (.string ⟨(printN (a : Int) s).toArray⟩) ∧ Below w.heap.size w w' := by
  have HT := Lib.hid ht
  have HP : Hid (printN (a : Int) s = D ++ (if s = 0 then [] else 46 :: E.drop 1)) := by
    unfold Hid printN printA
    rw [if_neg (by omega), hE, hr0, hD, hq0, ht0]; simp
  have H10 : Hid (∀ W, Calls Tryd.prog 33 #[.int .i64 (s : Int)] W fun e w' => e = .returned (.int .i64 (t : Int)) ∧ W = w') := by
    intro W; rw [ht0]; exact Tryd.tens_any s (by omega) W
  have hw := div_wrap a t ha
  rw [← hq0] at hw
  have hqa : q ≤ a := by rw [hq0]; exact Nat.div_le_self a t
  have htp : 0 < t := by rw [ht0]; exact Nat.pow_pos (by omega)
  have htn : ¬ (t : Int) = 0 := by omega
  have htm : t ≤ 1000000 := by rw [ht0]; have : 10 ^ s ≤ 10 ^ 6 := Nat.pow_le_pow_right (by omega) hs; omega
  have hrm : a % t < t := Nat.mod_lt _ htp
  have HD : Hid (Txt q D) := by intro W hW; rw [hD]; exact Tryd.itoa_nat q (by omega) W hW
  have HE : Hid (Txt ((t : Int) + (a : Int) % (t : Int)) E) := by
    intro W hW
    rw [hE, show ((t : Int) + (a : Int) % (t : Int)) = (r : Int) from by rw [hr0]; simp]
    exact Tryd.itoa_nat r (by omega) W hW
  have hdl := (dec_len q (by omega)).2
  rw [← hD] at hdl
  have hel := dec_len r (by omega)
  rw [← hE] at hel
  obtain ⟨hel1, hel2⟩ := hel
  clear ht ht0 hq0 hD hE hr0
  by_cases h0 : s = 0
  · subst h0
    go_enter Tryd.func16, Tryd.ntmps16
    go_wp2_with (first | (go_at_call 32; refine (Tryd.may_in _ _ (by omega) (by omega) (by omega) (by omega) _).mono ?_; rintro e w' ⟨rfl, rfl⟩) | (go_at_call 33; refine (H10.out _).mono ?_; rintro e w' ⟨rfl, rfl⟩))
    go_wp2_with (go_at_call 34; refine (HD.out _ (HT.out.below (((Below.refl _ w).alloc (Nat.le_refl _) _).alloc (by simp) _))).mono ?_; rintro e w2 ⟨rfl, hb2⟩; obtain ⟨hc, hf⟩ := bcell hb2; have hz : w.heap.size + 1 < w2.heap.size := by have := hb2.size; simp at this; omega)
    go_ret
    refine ⟨?_, (((Below.refl _ w).alloc (Nat.le_refl _) _).alloc (by simp) _).trans (hb2.mono (by simp; omega))⟩
    rw [HP.out]
    exact congrArg (fun x => Ending.returned (.string x)) (cat [] D |>.trans (by simp))
  · have hs0 : ((s : Int) == 0) = false := beq_eq_false_iff_ne.2 (by omega)
    go_enter Tryd.func16, Tryd.ntmps16
    go_wp2_with (first | (go_at_call 32; refine (Tryd.may_in _ _ (by omega) (by omega) (by omega) (by omega) _).mono ?_; rintro e w' ⟨rfl, rfl⟩) | (go_at_call 33; refine (H10.out _).mono ?_; rintro e w' ⟨rfl, rfl⟩))
    go_wp2_with (go_at_call 34; refine (HD.out _ (HT.out.below (((Below.refl _ w).alloc (Nat.le_refl _) _).alloc (by simp) _))).mono ?_; rintro e w2 ⟨rfl, hb2⟩; obtain ⟨hc, hf⟩ := bcell hb2; have hz : w.heap.size + 1 < w2.heap.size := by have := hb2.size; simp at this; omega)
    go_wp2_with (go_at_call 34; refine (HE.out _ ((HT.out.below (((Below.refl _ w).alloc (Nat.le_refl _) _).alloc (by simp) _)).below hb2)).mono ?_; rintro e w3 ⟨rfl, hb3⟩)
    go_ret
    refine ⟨?_, ((((Below.refl _ w).alloc (Nat.le_refl _) _).alloc (by simp) _).trans (hb2.mono (by simp; omega))).trans (hb3.mono (by omega))⟩
    rw [HP.out, if_neg h0]
    exact congrArg (fun x => Ending.returned (.string x)) (cat_tail [] D E _ rfl)

set_option maxHeartbeats 400000 in
theorem Tryd.Print_neg (a s t q r : Nat) (D E : List UInt8) (ha : a ≤ 1000000000000) (ha1 : 1 ≤ a) (hs : s ≤ 6) (ht0 : t = 10 ^ s) (hq0 : q = a / t) (hr0 : r = t + a % t) (hD : D = Lib.decDigits q) (hE : E = Lib.decDigits r) (w : World) (ht : Tab w) :
    Calls Tryd.prog 16 #[.agg #[.int .i64 (-(a : Int)), .int .i64 (s : Int)]] w fun e w' => e = .returned (.string ⟨(printN (-(a : Int)) s).toArray⟩) ∧ Below w.heap.size w w' := by
  have HT := Lib.hid ht
  have HP : Hid (printN (-(a : Int)) s = 45 :: (D ++ (if s = 0 then [] else 46 :: E.drop 1))) := by
    unfold Hid printN printA
    rw [if_pos (by omega), hE, hr0, hD, hq0, ht0]; simp
  have H10 : Hid (∀ W, Calls Tryd.prog 33 #[.int .i64 (s : Int)] W fun e w' => e = .returned (.int .i64 (t : Int)) ∧ W = w') := by
    intro W; rw [ht0]; exact Tryd.tens_any s (by omega) W
  have hw := div_wrap a t ha
  rw [← hq0] at hw
  have hqa : q ≤ a := by rw [hq0]; exact Nat.div_le_self a t
  have htp : 0 < t := by rw [ht0]; exact Nat.pow_pos (by omega)
  have htn : ¬ (t : Int) = 0 := by omega
  have htm : t ≤ 1000000 := by rw [ht0]; have : 10 ^ s ≤ 10 ^ 6 := Nat.pow_le_pow_right (by omega) hs; omega
  have hrm : a % t < t := Nat.mod_lt _ htp
  have HD : Hid (Txt q D) := by intro W hW; rw [hD]; exact Tryd.itoa_nat q (by omega) W hW
  have HE : Hid (Txt ((t : Int) + (a : Int) % (t : Int)) E) := by
    intro W hW
    rw [hE, show ((t : Int) + (a : Int) % (t : Int)) = (r : Int) from by rw [hr0]; simp]
    exact Tryd.itoa_nat r (by omega) W hW
  have hdl := (dec_len q (by omega)).2
  rw [← hD] at hdl
  have hel := dec_len r (by omega)
  rw [← hE] at hel
  obtain ⟨hel1, hel2⟩ := hel
  clear ht ht0 hq0 hD hE hr0
  by_cases h0 : s = 0
  · subst h0
    go_enter Tryd.func16, Tryd.ntmps16
    go_wp2_with (first | (go_at_call 32; refine (Tryd.may_in _ _ (by omega) (by omega) (by omega) (by omega) _).mono ?_; rintro e w' ⟨rfl, rfl⟩) | (go_at_call 33; refine (H10.out _).mono ?_; rintro e w' ⟨rfl, rfl⟩))
    go_wp2_with (go_at_call 34; refine (HD.out _ (HT.out.below (((Below.refl _ w).alloc (Nat.le_refl _) _).alloc (by simp) _))).mono ?_; rintro e w2 ⟨rfl, hb2⟩; obtain ⟨hc, hf⟩ := bcell hb2; have hz : w.heap.size + 1 < w2.heap.size := by have := hb2.size; simp at this; omega)
    go_ret
    refine ⟨?_, (((Below.refl _ w).alloc (Nat.le_refl _) _).alloc (by simp) _).trans (hb2.mono (by simp; omega))⟩
    rw [HP.out]
    exact congrArg (fun x => Ending.returned (.string x)) (cat [45] D |>.trans (by simp))
  · have hs0 : ((s : Int) == 0) = false := beq_eq_false_iff_ne.2 (by omega)
    go_enter Tryd.func16, Tryd.ntmps16
    go_wp2_with (first | (go_at_call 32; refine (Tryd.may_in _ _ (by omega) (by omega) (by omega) (by omega) _).mono ?_; rintro e w' ⟨rfl, rfl⟩) | (go_at_call 33; refine (H10.out _).mono ?_; rintro e w' ⟨rfl, rfl⟩))
    go_wp2_with (go_at_call 34; refine (HD.out _ (HT.out.below (((Below.refl _ w).alloc (Nat.le_refl _) _).alloc (by simp) _))).mono ?_; rintro e w2 ⟨rfl, hb2⟩; obtain ⟨hc, hf⟩ := bcell hb2; have hz : w.heap.size + 1 < w2.heap.size := by have := hb2.size; simp at this; omega)
    go_wp2_with (go_at_call 34; refine (HE.out _ ((HT.out.below (((Below.refl _ w).alloc (Nat.le_refl _) _).alloc (by simp) _)).below hb2)).mono ?_; rintro e w3 ⟨rfl, hb3⟩)
    go_ret
    refine ⟨?_, ((((Below.refl _ w).alloc (Nat.le_refl _) _).alloc (by simp) _).trans (hb2.mono (by simp; omega))).trans (hb3.mono (by omega))⟩
    rw [HP.out, if_neg h0]
    exact congrArg (fun x => Ending.returned (.string x)) (cat_tail [45] D E _ rfl)

theorem Tryd.Print_any (m : Int) (s : Nat) (hx : mayB m s = true) (w : World) (ht : Tab w) :
    Calls Tryd.prog 16 #[.agg #[.int .i64 m, .int .i64 (s : Int)]] w fun e w' => e = .returned (.string ⟨(printN m s).toArray⟩) ∧ Below w.heap.size w w' := by
  obtain ⟨a1, a2, a3, a4⟩ := mayB_of hx
  by_cases h : m < 0
  · obtain ⟨a, rfl⟩ : ∃ a : Nat, m = -(a : Int) := ⟨(-m).toNat, by omega⟩
    exact Tryd.Print_neg a s _ _ _ _ _ (by omega) (by omega) (by omega) rfl rfl rfl rfl rfl w ht
  · obtain ⟨a, rfl⟩ : ∃ a : Nat, m = (a : Int) := ⟨m.toNat, by omega⟩
    exact Tryd.Print_pos a s _ _ _ _ _ (by omega) (by omega) rfl rfl rfl rfl rfl w ht
#print axioms Tryd.Print_any
end Go.Proofs
