/- The document's Int. Conditions: a text that a string can be. -/
import Derived.Test.YtfhjndldiggchaaDoorRDigits
import Derived.Test.YtfhjndldiggchaaDoorTake
namespace Go.Fx
/-- The document's Int of a text without its sign, with sign g. -/
def intT (g : Int) (d : Int × Bool) : Int × Int := if d.2 = true then (if 100000000 < d.1 then (0, 2) else (g * d.1, 0)) else (0, 20)
def intR (l : List UInt8) : Int × Int := intT (sgn l) (digR (tailIf 45 l) 12)
theorem digR_bd (l : List UInt8) {k : Nat} : 0 ≤ (digR l k).1 ∧ (digR l k).1 < ((10 ^ k : Nat) : Int) := by
  unfold digR
  split
  · rename_i h
    have := valF_bd (a := 0) 0 (by omega) (by decide) l (List.all_eq_true.1 h.2.2)
    have e : 10 ^ (0 + l.length) ≤ 10 ^ k := Nat.pow_le_pow_right (by omega) (by omega)
    simp only
    omega
  · have : 0 < 10 ^ k := Nat.pow_pos (by omega)
    simp only
    omega
end Go.Fx
namespace Go.Proofs
open Go.RowKit Go.Fx
attribute [local go_sem] Oper.semAt_some

theorem head_some (s : ByteArray) (h0 : 0 < s.size) : ∃ r, s.data.toList = s[0] :: r ∧ (s.extract 1 s.size).data.toList = r := by
  have hl : 0 < s.data.toList.length := by rw [Array.length_toList]; exact h0
  refine ⟨s.data.toList.drop 1, ?_, ?_⟩
  · have := List.drop_eq_getElem_cons hl
    rw [List.drop_zero] at this
    exact this
  · rw [Lib.extract_data]
    simp [List.take_of_length_le]
theorem head_minus (s : ByteArray) (h0 : 0 < s.size) (hm : s[0] = 45) : sgn s.data.toList = -1 ∧ tailIf 45 s.data.toList = (s.extract 1 s.size).data.toList := by
  obtain ⟨r, h1, h2⟩ := head_some s h0
  rw [h1, h2, hm]
  exact ⟨rfl, rfl⟩
theorem head_other (s : ByteArray) (h0 : 0 < s.size) (hm : s[0] ≠ 45) : sgn s.data.toList = 1 ∧ tailIf 45 s.data.toList = s.data.toList := by
  obtain ⟨r, h1, h2⟩ := head_some s h0
  have : headB 45 s.data.toList = false := by rw [h1]; simp [headB, hm]
  unfold sgn tailIf
  rw [this]
  exact ⟨rfl, rfl⟩
theorem not_empty (s : ByteArray) (h0 : 0 < s.size) : s.toList.isEmpty = false := by
  rw [Lib.toList_data]
  cases h : s.data.toList with
  | nil => have : s.data.toList.length = s.size := Array.length_toList; rw [h] at this; simp at this; omega
  | cons a r => rfl
/-- What the document's digits tell of a text. -/
def Dgs (s : ByteArray) (k : Nat) (n : Int) (b : Bool) : Prop := ∀ W, Calls Tryd.prog 28 #[.string s, .int .i64 (k : Int)] W fun e w' => e = .returned (.tuple #[.int .i64 n, .bool b]) ∧ W = w'
theorem dgs_of (s : ByteArray) (k : Nat) (hk : k ≤ 12) (hs : s.size ≤ 9223372036854775807) {n : Int} {b : Bool} (h : digR s.data.toList k = (n, b)) : Dgs s k n b := fun W => by
  have := Tryd.rdigits_any s k hk hs W
  rwa [h] at this

set_option maxHeartbeats 400000 in
theorem Tryd.rInt_minus (s : ByteArray) (h0 : 0 < s.size) (hm : s[0] = 45) (n : Int) (b : Bool) (hn0 : 0 ≤ n) (hn1 : n ≤ 1000000000000) (hd : Dgs (s.extract 1 s.size) 12 n b) (w : World) :
    Calls Tryd.prog 12 #[.string s] w fun e w' => e = .returned (.tuple #[.int .i64 (intT (-1) (n, b)).1, .int .i64 (intT (-1) (n, b)).2]) ∧ w = w' := by
  have h1 := not_empty s h0
  have h2 : ((s[0].toNat : Int) == 45) = true := by rw [hm]; rfl
  have HD := Lib.hid hd
  clear hm hd
  cases b with
  | false =>
    have HT : Hid (intT (-1) (n, false) = (0, 20)) := rfl
    go_enter Tryd.func12, Tryd.ntmps12
    go_wp2_with (go_at_call 28; refine (HD.out _).mono ?_; rintro e w' ⟨rfl, rfl⟩)
    go_ret2
    exact ⟨ret_two HT.out, rfl⟩
  | true =>
    by_cases hg : 100000000 < n
    · have HT : Hid (intT (-1) (n, true) = (0, 2)) := by unfold Hid intT; simp [hg]
      go_enter Tryd.func12, Tryd.ntmps12
      go_wp2_with (go_at_call 28; refine (HD.out _).mono ?_; rintro e w' ⟨rfl, rfl⟩)
      go_ret2
      exact ⟨ret_two HT.out, rfl⟩
    · have HT : Hid (intT (-1) (n, true) = (-n, 0)) := by unfold Hid intT; simp [hg]
      go_enter Tryd.func12, Tryd.ntmps12
      go_wp2_with (go_at_call 28; refine (HD.out _).mono ?_; rintro e w' ⟨rfl, rfl⟩)
      go_ret2
      exact ⟨ret_two HT.out, rfl⟩

set_option maxHeartbeats 400000 in
theorem Tryd.rInt_other (s : ByteArray) (h0 : 0 < s.size) (hm : s[0] ≠ 45) (n : Int) (b : Bool) (hn0 : 0 ≤ n) (hn1 : n ≤ 1000000000000) (hd : Dgs s 12 n b) (w : World) :
    Calls Tryd.prog 12 #[.string s] w fun e w' => e = .returned (.tuple #[.int .i64 (intT 1 (n, b)).1, .int .i64 (intT 1 (n, b)).2]) ∧ w = w' := by
  have h1 := not_empty s h0
  have h2 : ((s[0].toNat : Int) == 45) = false := by
    apply beq_eq_false_iff_ne.2
    intro e
    exact hm (UInt8.toNat_inj.1 (by show s[0].toNat = 45; omega))
  have HD := Lib.hid hd
  clear hm hd
  cases b with
  | false =>
    have HT : Hid (intT 1 (n, false) = (0, 20)) := rfl
    go_enter Tryd.func12, Tryd.ntmps12
    go_wp2_with (go_at_call 28; refine (HD.out _).mono ?_; rintro e w' ⟨rfl, rfl⟩)
    go_ret2
    exact ⟨ret_two HT.out, rfl⟩
  | true =>
    by_cases hg : 100000000 < n
    · have HT : Hid (intT 1 (n, true) = (0, 2)) := by unfold Hid intT; simp [hg]
      go_enter Tryd.func12, Tryd.ntmps12
      go_wp2_with (go_at_call 28; refine (HD.out _).mono ?_; rintro e w' ⟨rfl, rfl⟩)
      go_ret2
      exact ⟨ret_two HT.out, rfl⟩
    · have HT : Hid (intT 1 (n, true) = (n, 0)) := by unfold Hid intT; simp [hg]
      go_enter Tryd.func12, Tryd.ntmps12
      go_wp2_with (go_at_call 28; refine (HD.out _).mono ?_; rintro e w' ⟨rfl, rfl⟩)
      go_ret2
      exact ⟨ret_two HT.out, rfl⟩

theorem Tryd.rInt_empty (w : World) :
    Calls Tryd.prog 12 #[.string ⟨#[]⟩] w fun e w' => e = .returned (.tuple #[.int .i64 0, .int .i64 20]) ∧ w = w' := by
  have HD : Hid (Dgs ⟨#[]⟩ 12 0 false) := dgs_of ⟨#[]⟩ 12 (by omega) (by decide) rfl
  go_enter Tryd.func12, Tryd.ntmps12
  go_wp2_with (go_at_call 28; refine (HD.out _).mono ?_; rintro e w' ⟨rfl, rfl⟩)
  go_ret2
  exact ⟨rfl, rfl⟩
theorem Tryd.rInt_any (s : ByteArray) (hs : s.size ≤ 9223372036854775807) (w : World) :
    Calls Tryd.prog 12 #[.string s] w fun e w' => e = .returned (.tuple #[.int .i64 (intR s.data.toList).1, .int .i64 (intR s.data.toList).2]) ∧ w = w' := by
  by_cases h0 : 0 < s.size
  · unfold intR
    by_cases hm : s[0] = 45
    · obtain ⟨e1, e2⟩ := head_minus s h0 hm
      rw [e1, e2]
      have hb := digR_bd (s.extract 1 s.size).data.toList (k := 12)
      have hsz : (s.extract 1 s.size).size ≤ 9223372036854775807 := by rw [ByteArray.size_extract]; omega
      exact Tryd.rInt_minus s h0 hm _ _ hb.1 (by have := hb.2; simp only [Nat.reducePow] at this; omega) (dgs_of _ 12 (by omega) hsz rfl) w
    · obtain ⟨e1, e2⟩ := head_other s h0 hm
      rw [e1, e2]
      have hb := digR_bd s.data.toList (k := 12)
      exact Tryd.rInt_other s h0 hm _ _ hb.1 (by have := hb.2; simp only [Nat.reducePow] at this; omega) (dgs_of _ 12 (by omega) hs rfl) w
  · have hz : s = ⟨#[]⟩ := by
      apply ByteArray.ext
      have h1 : s.data.size = 0 := by show s.size = 0; omega
      exact Array.eq_empty_of_size_eq_zero h1
    subst hz
    exact Tryd.rInt_empty w
#print axioms Tryd.rInt_any
end Go.Proofs
