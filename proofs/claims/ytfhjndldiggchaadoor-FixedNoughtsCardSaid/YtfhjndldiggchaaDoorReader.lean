/- The reader of package fixed: skip, sign, point, digits, end. Conditions: the reader's one cell may be written. -/
import Derived.Test.YtfhjndldiggchaaDoorCmp
import Derived.Laws.RangeAny
import Derived.WalkLawsBesides
namespace Go.Fx
/-- Does a text begin with this byte? -/
def headB (c : UInt8) : List UInt8 → Bool
  | [] => false
  | a :: _ => a == c
/-- The text without this byte ahead. -/
def tailIf (c : UInt8) (l : List UInt8) : List UInt8 := if headB c l then l.tail else l
theorem has_head (c : UInt8) (l : List UInt8) : Lib.hasPrefix l [c] = headB c l := by
  cases l with
  | nil => rfl
  | cons a r =>
    simp only [Lib.hasPrefix, headB, List.isPrefixOf, Bool.and_true]
    rw [Bool.eq_iff_iff, beq_iff_eq, beq_iff_eq]
    exact ⟨fun h => h.symm, fun h => h.symm⟩
theorem trim_head (c : UInt8) (l : List UInt8) : Lib.trimPrefix l [c] = tailIf c l := by
  unfold Lib.trimPrefix tailIf
  rw [has_head]
  cases l <;> simp [headB]
/-- Is a byte a digit? -/
def dg (c : UInt8) : Bool := digB (c.toNat : Int)
/-- A number that goes on with these digits. -/
def valF (m : Int) (l : List UInt8) : Int := l.foldl (fun n c => 10 * n + ((c.toNat : Int) - 48)) m
theorem valF_snoc (m : Int) (l : List UInt8) (c : UInt8) : valF m (l ++ [c]) = 10 * valF m l + ((c.toNat : Int) - 48) := by simp [valF]
theorem dg_bd {c : UInt8} (h : dg c = true) : 48 ≤ (c.toNat : Int) ∧ (c.toNat : Int) ≤ 57 := by simp [dg, digB] at h; omega
theorem valF_bd {a : Nat} (m : Int) (h0 : 0 ≤ m) (h1 : m < ((10 ^ a : Nat) : Int)) (l : List UInt8) (hl : ∀ c ∈ l, dg c = true) :
    0 ≤ valF m l ∧ valF m l < ((10 ^ (a + l.length) : Nat) : Int) := by
  induction l generalizing m a with
  | nil => exact ⟨h0, by simpa [valF] using h1⟩
  | cons c l ih =>
    have b := dg_bd (hl c (by simp))
    have e : 10 ^ (a + 1) = 10 * 10 ^ a := by rw [Nat.pow_succ, Nat.mul_comm]
    have i := ih (a := a + 1) (10 * m + ((c.toNat : Int) - 48)) (by omega) (by rw [e]; omega) (fun x hx => hl x (by simp [hx]))
    rw [show a + (c :: l).length = a + 1 + l.length from by simp; omega]
    exact i
theorem takeWhile_stop {l : List UInt8} {j : Nat} (ha : ∀ c ∈ l.take j, dg c = true) (hs : l.length ≤ j ∨ ∃ c, l[j]? = some c ∧ dg c = false) : l.takeWhile dg = l.take j := by
  induction l generalizing j with
  | nil => simp
  | cons a r ih =>
    cases j with
    | zero =>
      rcases hs with h | ⟨c, h, hd⟩
      · simp at h
      · simp at h; subst h; simp [hd]
    | succ j =>
      have h1 := ha a (by simp)
      simp only [List.takeWhile_cons, h1, if_true, List.take_succ_cons]
      congr 1
      exact ih (fun c hc => ha c (by simp [hc])) (by simpa using hs)
theorem takeWhile_more {l : List UInt8} {j : Nat} (ha : ∀ c ∈ l.take j, dg c = true) {c : UInt8} (hs : l[j]? = some c) (hd : dg c = true) : j < (l.takeWhile dg).length := by
  induction l generalizing j with
  | nil => simp at hs
  | cons a r ih =>
    cases j with
    | zero => simp at hs; subst hs; simp [hd]
    | succ j =>
      have h1 := ha a (by simp)
      simp only [List.takeWhile_cons, h1, if_true, List.length_cons]
      have := ih (j := j) (fun x hx => ha x (by simp [hx])) (by simpa using hs)
      omega
theorem take_snoc {l : List UInt8} {j : Nat} {c : UInt8} (h : l[j]? = some c) : l.take (j + 1) = l.take j ++ [c] := by
  obtain ⟨hj, rfl⟩ := List.getElem?_eq_some_iff.1 h
  rw [List.take_succ_eq_append_getElem hj]
end Go.Fx
namespace Go.Proofs
open Go.RowKit Go.Fx
attribute [local go_sem] Oper.semAt_some

/-- The text of these bytes. -/
def str (l : List UInt8) : Value := .string ⟨l.toArray⟩
theorem Tryd.skip_any (b : Nat) (l : List UInt8) (c : UInt8) (w : World) (hc : w.cell? ⟨b, 0, none⟩ = some (.string ⟨l.toArray⟩)) (hf : w.frozen? ⟨b, 0, none⟩ = false) :
    Calls Tryd.prog 39 #[.pointer (some ⟨b, 0, none⟩), .string ⟨#[c]⟩] w fun e w' => e = .returned (.bool (headB c l)) ∧ w' = w.setCell ⟨b, 0, none⟩ (.string ⟨(tailIf c l).toArray⟩) := by
  have H := Tryd.strings_CutPrefix ⟨l.toArray⟩ ⟨#[c]⟩ w
  simp only [has_head, trim_head] at H
  have HC := Lib.hid H
  clear H
  go_enter Tryd.func39, Tryd.ntmps39
  go_wp2_with (go_at_call 43; refine HC.out.mono ?_; rintro e w' ⟨rfl, rfl⟩)
  go_ret
  exact ⟨rfl, rfl⟩

theorem Tryd.sign_any (b : Nat) (l : List UInt8) (w : World) (hc : w.cell? ⟨b, 0, none⟩ = some (.string ⟨l.toArray⟩)) (hf : w.frozen? ⟨b, 0, none⟩ = false) :
    Calls Tryd.prog 26 #[.pointer (some ⟨b, 0, none⟩)] w fun e w' => e = .returned (.int .i64 (if headB 45 l then -1 else 1)) ∧ w' = w.setCell ⟨b, 0, none⟩ (.string ⟨(tailIf 45 l).toArray⟩) := by
  have H := Lib.hid (Tryd.skip_any b l 45 w hc hf)
  by_cases h : headB 45 l = true
  · rw [h] at H
    rw [h]
    clear h
    go_enter Tryd.func26, Tryd.ntmps26
    go_wp2_with (go_at_call 39; refine H.out.mono ?_; rintro e w' ⟨rfl, rfl⟩)
    go_ret
    exact ⟨rfl, rfl⟩
  · simp only [Bool.not_eq_true] at h
    rw [h] at H
    rw [h]
    clear h
    go_enter Tryd.func26, Tryd.ntmps26
    go_wp2_with (go_at_call 39; refine H.out.mono ?_; rintro e w' ⟨rfl, rfl⟩)
    go_ret
    exact ⟨rfl, rfl⟩
theorem Tryd.point_any (b : Nat) (l : List UInt8) (w : World) (hc : w.cell? ⟨b, 0, none⟩ = some (.string ⟨l.toArray⟩)) (hf : w.frozen? ⟨b, 0, none⟩ = false) :
    Calls Tryd.prog 30 #[.pointer (some ⟨b, 0, none⟩)] w fun e w' => e = .returned (.bool (headB 46 l)) ∧ w' = w.setCell ⟨b, 0, none⟩ (.string ⟨(tailIf 46 l).toArray⟩) := by
  have H := Lib.hid (Tryd.skip_any b l 46 w hc hf)
  go_enter Tryd.func30, Tryd.ntmps30
  go_wp2_with (go_at_call 39; refine H.out.mono ?_; rintro e w' ⟨rfl, rfl⟩)
  go_ret
  exact ⟨rfl, rfl⟩
/-- How a reader gives up. -/
def up20 : Ending := .panicked [{ v := .iface 23 (.int .i64 20), recovered := false }]
theorem Tryd.end_none (b : Nat) (w : World) (hc : w.cell? ⟨b, 0, none⟩ = some (.string ⟨#[]⟩)) :
    Calls Tryd.prog 38 #[.pointer (some ⟨b, 0, none⟩)] w fun e w' => e = .returned (.tuple #[]) ∧ w = w' := by
  go_enter Tryd.func38, Tryd.ntmps38
  go_wp2
  go_end0
  exact ⟨rfl, rfl⟩
theorem Tryd.end_some (b : Nat) (l : List UInt8) (hl : l ≠ []) (w : World) (hc : w.cell? ⟨b, 0, none⟩ = some (.string ⟨l.toArray⟩)) :
    Calls Tryd.prog 38 #[.pointer (some ⟨b, 0, none⟩)] w fun e w' => e = up20 ∧ w = w' := by
  have h1 : l.isEmpty = false := by cases l <;> simp_all
  clear hl
  go_enter Tryd.func38, Tryd.ntmps38
  go_wp2
  exact ⟨rfl, rfl, rfl⟩
theorem Tryd.digit_yes {c : UInt8} (h : dg c = true) (w : World) : Calls Tryd.prog 40 #[.int .u8 (c.toNat : Int)] w fun e w' => e = .returned (.bool true) ∧ w = w' := by
  have := Tryd.digit_any (c.toNat : Int) w
  rw [show digB (c.toNat : Int) = true from h] at this
  exact this
theorem Tryd.digit_no {c : UInt8} (h : dg c = false) (w : World) : Calls Tryd.prog 40 #[.int .u8 (c.toNat : Int)] w fun e w' => e = .returned (.bool false) ∧ w = w' := by
  have := Tryd.digit_any (c.toNat : Int) w
  rw [show digB (c.toNat : Int) = false from h] at this
  exact this
/-- How digits ends. -/
def DigPost (b : Nat) (l : List UInt8) (m most : Int) (w : World) (e : Ending) (w' : World) : Prop :=
  if 1 ≤ (l.takeWhile dg).length ∧ ((l.takeWhile dg).length : Int) ≤ most then
    e = .returned (.tuple #[.int .i64 (valF m (l.takeWhile dg)), .int .i64 (l.takeWhile dg).length]) ∧ w' = w.setCell ⟨b, 0, none⟩ (.string ⟨(l.drop (l.takeWhile dg).length).toArray⟩)
  else e = up20 ∧ w' = w
theorem dig_up {b : Nat} {l : List UInt8} {m most : Int} {w : World} (h : ¬ (1 ≤ (l.takeWhile dg).length ∧ ((l.takeWhile dg).length : Int) ≤ most)) : DigPost b l m most w (.panicked [{ v := .iface 23 (.int .i64 20), recovered := false }]) w := by
  unfold DigPost
  rw [if_neg h]
  exact ⟨rfl, rfl⟩
theorem dig_ret {b : Nat} {s : ByteArray} {m : Int} {most j : Nat} {n : Int} {w : World} {v : Value} (hj : 1 ≤ j) (hjs : j ≤ s.size) (hm : j ≤ most) (hn : n = valF m (s.data.toList.take j)) (ht : s.data.toList.takeWhile dg = s.data.toList.take j) (hv : v = .string ⟨(s.data.toList.drop j).toArray⟩) :
    DigPost b s.data.toList m most w (.returned (.tuple #[.int .i64 n, .int .i64 (j : Int)])) (w.setCell ⟨b, 0, none⟩ v) := by
  have hl : (s.data.toList.takeWhile dg).length = j := by
    rw [ht, List.length_take, Array.length_toList]
    exact Nat.min_eq_left hjs
  unfold DigPost
  rw [hl, if_pos ⟨hj, by omega⟩, ht, hn, hv]
  exact ⟨rfl, rfl⟩
theorem str_drop (s : ByteArray) (j : Nat) : Value.string (s.extract j s.size) = .string ⟨(s.data.toList.drop j).toArray⟩ := by
  congr 1
  apply ByteArray.ext
  apply Array.ext'
  rw [Lib.extract_data]
  simp [List.take_of_length_le]
set_option maxHeartbeats 400000 in
theorem Tryd.digits_any (b : Nat) (s : ByteArray) (hs : s.size ≤ 9223372036854775807) (m : Int) (a most : Nat) (h0 : 0 ≤ m) (h1 : m < ((10 ^ a : Nat) : Int)) (hm0 : 1 ≤ most) (hm : a + most ≤ 18) (w : World)
    (hc : w.cell? ⟨b, 0, none⟩ = some (.string s)) (hf : w.frozen? ⟨b, 0, none⟩ = false) :
    Calls Tryd.prog 27 #[.pointer (some ⟨b, 0, none⟩), .int .i64 m, .int .i64 (most : Int)] w fun e w' => DigPost b s.data.toList m most w e w' := by
  have h1' := Lib.hid h1
  clear h1
  go_enter Tryd.func27, Tryd.ntmps27
  go_wp2
  go_loop [1, 8] (fun v i => ∃ (j : Nat) (n : Int), j ≤ s.size ∧ j ≤ most ∧ i = .int .i64 (j : Int) ∧ v = .int .i64 n ∧ Hid (n = valF m (s.data.toList.take j) ∧ ∀ c ∈ s.data.toList.take j, dg c = true)) (fun _ i => s.size - (intOf i).toNat)
  case atStart => exact ⟨0, m, Nat.zero_le _, Nat.zero_le _, rfl, rfl, ⟨by simp [valF], by simp⟩⟩
  case round =>
    obtain ⟨j, n, hj, hjm, rfl, rfl, HN⟩ := hrel
    by_cases hlt : j < s.size
    · have hget : s.data.toList[j]? = some s[j] := by
        have h' : j < s.data.toList.length := by simpa using hlt
        rw [List.getElem?_eq_getElem h']; rfl
      by_cases hd : dg s[j] = true
      · have HM : Hid (j < (s.data.toList.takeWhile dg).length) := takeWhile_more HN.out.2 hget hd
        have hd2 := dg_bd hd
        have HD := Lib.hid hd
        have HS : Hid (s.data.toList.take (j + 1) = s.data.toList.take j ++ [s[j]]) := take_snoc hget
        clear hd hget
        by_cases hjq : j = most
        · subst hjq
          clear hd2
          go_wp2_with (go_at_call 40; refine (Tryd.digit_yes HD.out _).mono ?_; rintro e w' ⟨rfl, rfl⟩)
          exact ⟨rfl, dig_up (by have := HM.out; omega)⟩
        · have hnb := valF_bd m h0 h1'.out (s.data.toList.take j) HN.out.2
          rw [← HN.out.1] at hnb
          have hnq : n ≤ 99999999999999999 := by
            have e1 : (s.data.toList.take j).length ≤ j := List.length_take_le _ _
            have e2 : 10 ^ (a + (s.data.toList.take j).length) ≤ 10 ^ 17 := Nat.pow_le_pow_right (by omega) (by omega)
            omega
          have hn0 := hnb.1
          clear hnb
          have HX : Hid (10 * n + ((s[j].toNat : Int) - 48) = valF m (s.data.toList.take (j + 1)) ∧ ∀ c ∈ s.data.toList.take (j + 1), dg c = true) := by
            refine ⟨by rw [HS.out, valF_snoc, ← HN.out.1], ?_⟩
            rw [HS.out]
            intro c hc'
            rcases List.mem_append.1 hc' with h | h
            · exact HN.out.2 c h
            · rw [List.mem_singleton.1 h]; exact HD.out
          go_wp2_with (go_at_call 40; refine (Tryd.digit_yes HD.out _).mono ?_; rintro e w' ⟨rfl, rfl⟩)
          go_round
          case rel => exact ⟨j + 1, 10 * n + ((s[j].toNat : Int) - 48), by omega, by omega, by go_num, by go_num, HX⟩
          case measure => simp [intOf]; omega
      · simp only [Bool.not_eq_true] at hd
        have HT : Hid (s.data.toList.takeWhile dg = s.data.toList.take j) := takeWhile_stop HN.out.2 (.inr ⟨_, hget, hd⟩)
        have HD := Lib.hid hd
        clear hd hget
        by_cases hj0 : 1 ≤ j
        · have hj1 : ((j : Int) == 0) = false := by simp; omega
          go_wp2_with (go_at_call 40; refine (Tryd.digit_no HD.out _).mono ?_; rintro e w' ⟨rfl, rfl⟩)
          go_ret2
          exact dig_ret hj0 (by omega) hjm HN.out.1 HT.out (str_drop s j)
        · obtain rfl : j = 0 := by omega
          go_wp2_with (go_at_call 40; refine (Tryd.digit_no HD.out _).mono ?_; rintro e w' ⟨rfl, rfl⟩)
          exact ⟨rfl, dig_up (by have := HT.out; simp [this])⟩
    · have hge : s.size ≤ j := by omega
      have HT : Hid (s.data.toList.takeWhile dg = s.data.toList.take j) := takeWhile_stop HN.out.2 (.inl (by rw [Array.length_toList]; exact hge))
      by_cases hj0 : 1 ≤ j
      · have hj1 : ((j : Int) == 0) = false := beq_eq_false_iff_ne.2 (by omega)
        go_wp2
        go_ret2
        exact dig_ret hj0 (by omega) hjm HN.out.1 HT.out (str_drop s j)
      · obtain rfl : j = 0 := by omega
        go_wp2
        exact ⟨rfl, dig_up (by have := HT.out; simp [this])⟩
#print axioms Tryd.digits_any
end Go.Proofs
