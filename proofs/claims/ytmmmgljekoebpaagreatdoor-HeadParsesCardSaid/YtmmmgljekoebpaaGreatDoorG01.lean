/- Small functions of package fixed (and of the statements' own packages): digits, tens, bounds. Conditions: those that each theorem names. -/
import Derived.Test.YtmmmgljekoebpaaGreatDoorProg
import Derived.WalkKit
import Derived.Lib.Hide
import Derived.Deep.QuietTactic
import Derived.BigQuiet
import Derived.Deep.LoopGhost
import Derived.Test.YtmmmgljekoebpaaGreatDoorShelf
import Derived.Laws.RangeAny
import Derived.WalkLawsBesides
import Derived.RangeFuncNested
import Derived.Lib.LaidTab
import Derived.Lib.ItoaLen
import Derived.Lib.ItoaNum
import Derived.RowKit
import Derived.Shelf.Abstract
import Derived.Shelf.RegionOpen
import Derived.LoopNIn
import Derived.LoopIn
import Derived.Lib.OthersKept
import Derived.ChangeArms
import Derived.ChangeBears2
namespace Go.Fx
/-- Is it a decimal digit? -/
def digB (b : Int) : Bool := decide (48 ≤ b) && decide (b ≤ 57)
theorem digB_yes {b : Int} (h1 : 48 ≤ b) (h2 : b ≤ 57) : digB b = true := by simp [digB, h1, h2]
theorem digB_low {b : Int} (h1 : b < 48) : digB b = false := by simp [digB]; omega
theorem digB_high {b : Int} (h1 : 57 < b) : digB b = false := by simp [digB]; omega
/-- Is it a number of the size that is told? -/
def fitB (m : Int) : Bool := decide (-100000000 ≤ m) && decide (m ≤ 100000000)
/-- Is it a number of which something is promised? -/
def mayB (m s : Int) : Bool := decide (0 ≤ s) && decide (s ≤ 6) && decide (-1000000000000 ≤ m) && decide (m ≤ 1000000000000)
end Go.Fx
namespace Go.Proofs
open Go.RowKit Go.Fx
attribute [local go_sem] Oper.semAt_some

theorem ret_int {k : IntKind} {a b : Int} (h : a = b) : Ending.returned (.int k a) = .returned (.int k b) := by rw [h]
theorem ret_bool {a b : Bool} (h : a = b) : Ending.returned (.bool a) = .returned (.bool b) := by rw [h]

theorem Tryz.digit_any (b : Int) (w : World) :
    Calls Tryz.prog 101 #[.int .u8 b] w fun e w' => e = .returned (.bool (digB b)) ∧ w = w' := by
  by_cases h1 : 48 ≤ b
  · by_cases h2 : b ≤ 57
    · go_enter Tryz.func101, Tryz.ntmps101
      go_wp2
      go_ret
      exact ⟨ret_bool (by rw [digB_yes h1 h2]), rfl⟩
    · go_enter Tryz.func101, Tryz.ntmps101
      go_wp2
      go_ret
      exact ⟨ret_bool (by rw [digB_high h2]), rfl⟩
  · go_enter Tryz.func101, Tryz.ntmps101
    go_wp2
    go_ret
    exact ⟨ret_bool (by rw [digB_low h1]), rfl⟩

theorem Tryz.fits_any (m : Int) (w : World) :
    Calls Tryz.prog 99 #[.int .i64 m] w fun e w' => e = .returned (.bool (fitB m)) ∧ w = w' := by
  by_cases h1 : -100000000 ≤ m
  · by_cases h2 : m ≤ 100000000
    · go_enter Tryz.func99, Tryz.ntmps99
      go_wp2
      go_ret
      exact ⟨ret_bool (by simp [fitB]; omega), rfl⟩
    · go_enter Tryz.func99, Tryz.ntmps99
      go_wp2
      go_ret
      exact ⟨ret_bool (by simp [fitB]; omega), rfl⟩
  · go_enter Tryz.func99, Tryz.ntmps99
    go_wp2
    go_ret
    exact ⟨ret_bool (by simp [fitB]; omega), rfl⟩

end Go.Proofs
/- fixed.may, fixed.Least, the statements' own good, and the document's tens and Least. Conditions: those that each theorem names. -/
namespace Go.Fx
/-- The least form of m divided by 10 to the s. -/
def least : Nat → Int → Int × Nat
  | 0, m => (m, 0)
  | s + 1, m => if m.tmod 10 = 0 then least s (m.tdiv 10) else (m, s + 1)
theorem least_zero (s : Nat) : least s 0 = (0, 0) := by
  induction s with
  | zero => rfl
  | succ s ih => simp [least, ih]
theorem least_le (s : Nat) (m : Int) : (least s m).2 ≤ s := by
  induction s generalizing m with
  | zero => simp [least]
  | succ s ih => unfold least; split
                 · have := ih (m.tdiv 10); omega
                 · simp
theorem least_stop (g : Nat) (m : Int) (h : ¬ m.tmod 10 = 0) : least g m = (m, g) := by
  cases g with
  | zero => rfl
  | succ g => simp [least, h]
theorem least_go (g : Nat) (m : Int) (h : m.tmod 10 = 0) : least (g + 1) m = least g (m.tdiv 10) := by simp [least, h]
theorem tdiv_cases (m : Int) (k : Int) : (0 ≤ m ∧ m.tdiv k = m / k ∧ m.tmod k = m % k) ∨ (m < 0 ∧ m.tdiv k = -((-m) / k) ∧ m.tmod k = -((-m) % k)) := by
  by_cases h : 0 ≤ m
  · exact .inl ⟨h, Int.tdiv_eq_ediv_of_nonneg h, Int.tmod_eq_emod_of_nonneg h⟩
  · refine .inr ⟨by omega, ?_, ?_⟩
    · have := Int.neg_tdiv (-m) k
      rw [Int.neg_neg] at this
      rw [this, Int.tdiv_eq_ediv_of_nonneg (by omega)]
    · have := Int.neg_tmod (-m) k
      rw [Int.neg_neg] at this
      rw [this, Int.tmod_eq_emod_of_nonneg (by omega)]
theorem tdiv10_bd {m : Int} (h1 : -9223372036854775807 ≤ m) (h2 : m ≤ 9223372036854775807) : -9223372036854775807 ≤ m.tdiv 10 ∧ m.tdiv 10 ≤ 9223372036854775807 := by
  rcases tdiv_cases m 10 with ⟨a, b, _⟩ | ⟨a, b, _⟩ <;> omega
end Go.Fx
namespace Go.Proofs
open Go.RowKit Go.Fx
attribute [local go_sem] Oper.semAt_some

theorem ret_num {a : Int} {c : Nat} {x : Int × Nat} (h : x = (a, c)) : Ending.returned (.agg #[.int .i64 a, .int .i64 (c : Int)]) = .returned (.agg #[.int .i64 x.1, .int .i64 (x.2 : Int)]) := by rw [h]




set_option maxHeartbeats 400000 in
theorem Tryz.Least_any (m : Int) (s : Nat) (hm0 : -9223372036854775807 ≤ m) (hm1 : m ≤ 9223372036854775807) (hs : s ≤ 6) (w : World) :
    Calls Tryz.prog 97 #[.agg #[.int .i64 m, .int .i64 (s : Int)]] w fun e w' => e = .returned (.agg #[.int .i64 (least s m).1, .int .i64 ((least s m).2 : Int)]) ∧ Below w.heap.size w w' := by
  by_cases h0 : m = 0
  · obtain ⟨x, hx⟩ : ∃ x, least s m = x := ⟨_, rfl⟩
    obtain rfl : x = (0, 0) := by rw [← hx, h0]; exact least_zero s
    rw [hx]
    clear hx
    subst h0
    go_enter Tryz.func97, Tryz.ntmps97
    go_wp2
    refine bodyPost_ret (v := .agg #[.int .i64 0, .int .i64 0]) (by simp [results, Tryz.results97, go_sem]) rfl ⟨rfl, ?_⟩
    exact (((Below.refl _ w).alloc (Nat.le_refl _) _).alloc (by simp) _)
  · go_enter Tryz.func97, Tryz.ntmps97
    go_wp2
    go_loopg [] s (fun g wr => ∃ m' : Int, wr = ((w.alloc (.cells #[.int .i64 m', .int .i64 (g : Int)] 115)).alloc (.cells #[.int .i64 0, .int .i64 0] 115)) ∧ g ≤ s ∧ -9223372036854775807 ≤ m' ∧ m' ≤ 9223372036854775807 ∧ Hid (least g m' = least s m))
    case atStart => exact ⟨m, rfl, Nat.le_refl _, hm0, hm1, rfl⟩
    case round =>
      obtain ⟨m', rfl, hg, h1, h2, HL⟩ := hrel
      by_cases hg0 : 0 < gk
      · obtain ⟨g, rfl⟩ : ∃ g, gk = g + 1 := ⟨gk - 1, by omega⟩
        by_cases hz : m'.tmod 10 = 0
        · have hz' : (m'.tmod 10 == 0) = true := by simpa using hz
          have hb := tdiv10_bd h1 h2
          have HN : Hid (least g (m'.tdiv 10) = least s m) := by have := HL.out; rw [least_go g m' hz] at this; exact this
          clear hz HL
          go_wp2
          go_roundg g
          case measure => omega
          case rel => exact ⟨m'.tdiv 10, by simp, by omega, hb.1, hb.2, HN⟩
        · have hz' : (m'.tmod 10 == 0) = false := by simpa using hz
          have HN : Hid (least s m = (m', g + 1)) := by rw [← HL.out]; exact least_stop _ _ hz
          clear hz HL
          go_wp2
          refine bodyPost_ret (v := .agg #[.int .i64 m', .int .i64 ((g + 1 : Nat) : Int)]) (by simp [results, Tryz.results97, go_sem]) rfl ⟨ret_num HN.out, ?_⟩
          exact (((Below.refl _ w).alloc (Nat.le_refl _) _).alloc (by simp) _)
      · obtain rfl : gk = 0 := by omega
        have HN : Hid (least s m = (m', 0)) := by rw [← HL.out]; rfl
        clear HL
        go_wp2
        refine bodyPost_ret (v := .agg #[.int .i64 m', .int .i64 ((0 : Nat) : Int)]) (by simp [results, Tryz.results97, go_sem]) rfl ⟨ret_num HN.out, ?_⟩
        exact (((Below.refl _ w).alloc (Nat.le_refl _) _).alloc (by simp) _)
#print axioms Tryz.Least_any
end Go.Proofs
/- fixed.Cmp, fixed.To, and the document's Least, Cmp, To. Conditions: those that each theorem names. -/
namespace Go.Fx
/-- 10 to the x. -/
def p10 (x : Int) : Int := ((10 ^ x.toNat : Nat) : Int)
theorem p10_nat (k : Nat) : p10 (k : Int) = ((10 ^ k : Nat) : Int) := by simp [p10]
theorem p10_pos (x : Int) : 1 ≤ p10 x := by
  unfold p10
  have : 0 < 10 ^ x.toNat := Nat.pow_pos (by omega)
  omega
theorem p10_le {x : Int} {k : Nat} (h : x ≤ k) : p10 x ≤ ((10 ^ k : Nat) : Int) := by
  unfold p10
  have : 10 ^ x.toNat ≤ 10 ^ k := Nat.pow_le_pow_right (by omega) (by omega)
  omega
theorem mul_bd {m t M T : Int} (h1 : -M ≤ m) (h2 : m ≤ M) (h3 : 0 ≤ t) (h4 : t ≤ T) (hM : 0 ≤ M) : -(M * T) ≤ m * t ∧ m * t ≤ M * T := by
  have a : m * t ≤ M * t := Int.mul_le_mul_of_nonneg_right h2 h3
  have b : M * t ≤ M * T := Int.mul_le_mul_of_nonneg_left h4 hM
  have c : (-M) * t ≤ m * t := Int.mul_le_mul_of_nonneg_right h1 h3
  rw [Int.neg_mul] at c
  omega
/-- How two numbers compare. -/
def cmpN (m s k t : Int) : Int := Lib.compareInt (m * p10 (6 - s)) (k * p10 (6 - t))
theorem scale_bd {m s : Int} (h0 : 0 ≤ s) (h6 : s ≤ 6) (h1 : -1000000000000 ≤ m) (h2 : m ≤ 1000000000000) : -1000000000000000000 ≤ m * p10 (6 - s) ∧ m * p10 (6 - s) ≤ 1000000000000000000 := by
  have hp := p10_pos (6 - s)
  have hq : p10 (6 - s) ≤ ((10 ^ 6 : Nat) : Int) := p10_le (by omega)
  have := mul_bd (M := 1000000000000) (T := 1000000) (t := p10 (6 - s)) h1 h2 (by omega) (by simpa using hq) (by omega)
  omega
end Go.Fx
namespace Go.Proofs
open Go.RowKit Go.Fx
attribute [local go_sem] Oper.semAt_some

theorem quiet_left {P : Program} {f : FuncId} {args : Array Value} {w : World} {n : Nat} {v : Value}
    (h : Calls P f args (w.drewN n) fun e w' => e = .returned v ∧ w.drewN n = w') : Calls P f args (w.drewN n) fun e w'' => e = .returned v ∧ ∃ m, w'' = w.drewN m :=
  h.mono fun _ _ ⟨he, hm⟩ => ⟨he, n, hm.symm⟩
theorem quiet_add_left {P : Program} {f : FuncId} {args : Array Value} {w : World} {a n : Nat} {v : Value}
    (h : Calls P f args (w.drewN (a + n)) fun e w' => e = .returned v ∧ w.drewN (a + n) = w') :
    Calls P f args (w.drewN (a + n)) fun e w'' => e = .returned v ∧ ∃ m, w'' = w.drewN (a + m) :=
  h.mono fun _ _ ⟨he, hm⟩ => ⟨he, n, hm.symm⟩
theorem fxbelow_drewN {B : Nat} {a w : World} (h : Below B a w) (n : Nat) : Below B a (w.drewN n) := ⟨h.os, h.tape, h.output, h.size, h.block⟩
theorem bcell {W w1 : World} (hb : Below W.heap.size W w1) : (∀ b o, b < W.heap.size → w1.cell? ⟨b, o, none⟩ = W.cell? ⟨b, o, none⟩) ∧ (∀ b o, b < W.heap.size → w1.frozen? ⟨b, o, none⟩ = W.frozen? ⟨b, o, none⟩) :=
  ⟨fun b o h => hb.cell (p := ⟨b, o, none⟩) h, fun b o h => hb.frozen (p := ⟨b, o, none⟩) h⟩


theorem mayB_mk {m s : Int} (h0 : 0 ≤ s) (h6 : s ≤ 6) (h1 : -1000000000000 ≤ m) (h2 : m ≤ 1000000000000) : mayB m s = true := by simp [mayB, *]
theorem mayB_of {m s : Int} (h : mayB m s = true) : 0 ≤ s ∧ s ≤ 6 ∧ -1000000000000 ≤ m ∧ m ≤ 1000000000000 := by
  simp [mayB] at h; omega




end Go.Proofs
/- The reader of package fixed: skip, sign, point, digits, end. Conditions: the reader's one cell may be written. -/
namespace Go.Fx
/-- Does a text begin with this byte? -/
def headB (c : UInt8) : List UInt8 → Bool
  | [] => false
  | a :: _ => a == c
/-- The text without this byte ahead. -/
def tailIf (c : UInt8) (l : List UInt8) : List UInt8 := if headB c l then l.tail else l
theorem has_head (c : UInt8) (l : List UInt8) : Lib.hasPrefix l [c] = headB c l := by
  cases l with
  | nil => rfl
  | cons a r =>
    simp only [Lib.hasPrefix, headB, List.isPrefixOf, Bool.and_true]
    rw [Bool.eq_iff_iff, beq_iff_eq, beq_iff_eq]
    exact ⟨fun h => h.symm, fun h => h.symm⟩
theorem trim_head (c : UInt8) (l : List UInt8) : Lib.trimPrefix l [c] = tailIf c l := by
  unfold Lib.trimPrefix tailIf
  rw [has_head]
  cases l <;> simp [headB]
/-- Is a byte a digit? -/
def dg (c : UInt8) : Bool := digB (c.toNat : Int)
/-- A number that goes on with these digits. -/
def valF (m : Int) (l : List UInt8) : Int := l.foldl (fun n c => 10 * n + ((c.toNat : Int) - 48)) m
theorem valF_snoc (m : Int) (l : List UInt8) (c : UInt8) : valF m (l ++ [c]) = 10 * valF m l + ((c.toNat : Int) - 48) := by simp [valF]
theorem dg_bd {c : UInt8} (h : dg c = true) : 48 ≤ (c.toNat : Int) ∧ (c.toNat : Int) ≤ 57 := by simp [dg, digB] at h; omega
theorem valF_bd {a : Nat} (m : Int) (h0 : 0 ≤ m) (h1 : m < ((10 ^ a : Nat) : Int)) (l : List UInt8) (hl : ∀ c ∈ l, dg c = true) :
    0 ≤ valF m l ∧ valF m l < ((10 ^ (a + l.length) : Nat) : Int) := by
  induction l generalizing m a with
  | nil => exact ⟨h0, by simpa [valF] using h1⟩
  | cons c l ih =>
    have b := dg_bd (hl c (by simp))
    have e : 10 ^ (a + 1) = 10 * 10 ^ a := by rw [Nat.pow_succ, Nat.mul_comm]
    have i := ih (a := a + 1) (10 * m + ((c.toNat : Int) - 48)) (by omega) (by rw [e]; omega) (fun x hx => hl x (by simp [hx]))
    rw [show a + (c :: l).length = a + 1 + l.length from by simp; omega]
    exact i
theorem takeWhile_stop {l : List UInt8} {j : Nat} (ha : ∀ c ∈ l.take j, dg c = true) (hs : l.length ≤ j ∨ ∃ c, l[j]? = some c ∧ dg c = false) : l.takeWhile dg = l.take j := by
  induction l generalizing j with
  | nil => simp
  | cons a r ih =>
    cases j with
    | zero =>
      rcases hs with h | ⟨c, h, hd⟩
      · simp at h
      · simp at h; subst h; simp [hd]
    | succ j =>
      have h1 := ha a (by simp)
      simp only [List.takeWhile_cons, h1, if_true, List.take_succ_cons]
      congr 1
      exact ih (fun c hc => ha c (by simp [hc])) (by simpa using hs)
theorem takeWhile_more {l : List UInt8} {j : Nat} (ha : ∀ c ∈ l.take j, dg c = true) {c : UInt8} (hs : l[j]? = some c) (hd : dg c = true) : j < (l.takeWhile dg).length := by
  induction l generalizing j with
  | nil => simp at hs
  | cons a r ih =>
    cases j with
    | zero => simp at hs; subst hs; simp [hd]
    | succ j =>
      have h1 := ha a (by simp)
      simp only [List.takeWhile_cons, h1, if_true, List.length_cons]
      have := ih (j := j) (fun x hx => ha x (by simp [hx])) (by simpa using hs)
      omega
theorem take_snoc {l : List UInt8} {j : Nat} {c : UInt8} (h : l[j]? = some c) : l.take (j + 1) = l.take j ++ [c] := by
  obtain ⟨hj, rfl⟩ := List.getElem?_eq_some_iff.1 h
  rw [List.take_succ_eq_append_getElem hj]
end Go.Fx
namespace Go.Proofs
open Go.RowKit Go.Fx
attribute [local go_sem] Oper.semAt_some

/-- The text of these bytes. -/
def str (l : List UInt8) : Value := .string ⟨l.toArray⟩
theorem Tryz.skip_any (b : Nat) (l : List UInt8) (c : UInt8) (w : World) (hc : w.cell? ⟨b, 0, none⟩ = some (.string ⟨l.toArray⟩)) (hf : w.frozen? ⟨b, 0, none⟩ = false) :
    Calls Tryz.prog 100 #[.pointer (some ⟨b, 0, none⟩), .string ⟨#[c]⟩] w fun e w' => e = .returned (.bool (headB c l)) ∧ w' = w.setCell ⟨b, 0, none⟩ (.string ⟨(tailIf c l).toArray⟩) := by
  have H := Tryz.strings_CutPrefix ⟨l.toArray⟩ ⟨#[c]⟩ w
  simp only [has_head, trim_head] at H
  have HC := Lib.hid H
  clear H
  go_enter Tryz.func100, Tryz.ntmps100
  go_wp2_with (go_at_call 105; refine HC.out.mono ?_; rintro e w' ⟨rfl, rfl⟩)
  go_ret
  exact ⟨rfl, rfl⟩

theorem Tryz.sign_any (b : Nat) (l : List UInt8) (w : World) (hc : w.cell? ⟨b, 0, none⟩ = some (.string ⟨l.toArray⟩)) (hf : w.frozen? ⟨b, 0, none⟩ = false) :
    Calls Tryz.prog 84 #[.pointer (some ⟨b, 0, none⟩)] w fun e w' => e = .returned (.int .i64 (if headB 45 l then -1 else 1)) ∧ w' = w.setCell ⟨b, 0, none⟩ (.string ⟨(tailIf 45 l).toArray⟩) := by
  have H := Lib.hid (Tryz.skip_any b l 45 w hc hf)
  by_cases h : headB 45 l = true
  · rw [h] at H
    rw [h]
    clear h
    go_enter Tryz.func84, Tryz.ntmps84
    go_wp2_with (go_at_call 100; refine H.out.mono ?_; rintro e w' ⟨rfl, rfl⟩)
    go_ret
    exact ⟨rfl, rfl⟩
  · simp only [Bool.not_eq_true] at h
    rw [h] at H
    rw [h]
    clear h
    go_enter Tryz.func84, Tryz.ntmps84
    go_wp2_with (go_at_call 100; refine H.out.mono ?_; rintro e w' ⟨rfl, rfl⟩)
    go_ret
    exact ⟨rfl, rfl⟩
/-- How a reader gives up. -/
def up20 : Ending := .panicked [{ v := .iface 25 (.int .i64 20), recovered := false }]
theorem Tryz.end_none (b : Nat) (w : World) (hc : w.cell? ⟨b, 0, none⟩ = some (.string ⟨#[]⟩)) :
    Calls Tryz.prog 98 #[.pointer (some ⟨b, 0, none⟩)] w fun e w' => e = .returned (.tuple #[]) ∧ w = w' := by
  go_enter Tryz.func98, Tryz.ntmps98
  go_wp2
  go_end0
  exact ⟨rfl, rfl⟩
theorem Tryz.end_some (b : Nat) (l : List UInt8) (hl : l ≠ []) (w : World) (hc : w.cell? ⟨b, 0, none⟩ = some (.string ⟨l.toArray⟩)) :
    Calls Tryz.prog 98 #[.pointer (some ⟨b, 0, none⟩)] w fun e w' => e = up20 ∧ w = w' := by
  have h1 : l.isEmpty = false := by cases l <;> simp_all
  clear hl
  go_enter Tryz.func98, Tryz.ntmps98
  go_wp2
  exact ⟨rfl, rfl, rfl⟩
theorem Tryz.digit_yes {c : UInt8} (h : dg c = true) (w : World) : Calls Tryz.prog 101 #[.int .u8 (c.toNat : Int)] w fun e w' => e = .returned (.bool true) ∧ w = w' := by
  have := Tryz.digit_any (c.toNat : Int) w
  rw [show digB (c.toNat : Int) = true from h] at this
  exact this
theorem Tryz.digit_no {c : UInt8} (h : dg c = false) (w : World) : Calls Tryz.prog 101 #[.int .u8 (c.toNat : Int)] w fun e w' => e = .returned (.bool false) ∧ w = w' := by
  have := Tryz.digit_any (c.toNat : Int) w
  rw [show digB (c.toNat : Int) = false from h] at this
  exact this
/-- How digits ends. -/
def DigPost (b : Nat) (l : List UInt8) (m most : Int) (w : World) (e : Ending) (w' : World) : Prop :=
  if 1 ≤ (l.takeWhile dg).length ∧ ((l.takeWhile dg).length : Int) ≤ most then
    e = .returned (.tuple #[.int .i64 (valF m (l.takeWhile dg)), .int .i64 (l.takeWhile dg).length]) ∧ w' = w.setCell ⟨b, 0, none⟩ (.string ⟨(l.drop (l.takeWhile dg).length).toArray⟩)
  else e = up20 ∧ w' = w
theorem dig_up {b : Nat} {l : List UInt8} {m most : Int} {w : World} (h : ¬ (1 ≤ (l.takeWhile dg).length ∧ ((l.takeWhile dg).length : Int) ≤ most)) : DigPost b l m most w (.panicked [{ v := .iface 25 (.int .i64 20), recovered := false }]) w := by
  unfold DigPost
  rw [if_neg h]
  exact ⟨rfl, rfl⟩
theorem dig_ret {b : Nat} {s : ByteArray} {m : Int} {most j : Nat} {n : Int} {w : World} {v : Value} (hj : 1 ≤ j) (hjs : j ≤ s.size) (hm : j ≤ most) (hn : n = valF m (s.data.toList.take j)) (ht : s.data.toList.takeWhile dg = s.data.toList.take j) (hv : v = .string ⟨(s.data.toList.drop j).toArray⟩) :
    DigPost b s.data.toList m most w (.returned (.tuple #[.int .i64 n, .int .i64 (j : Int)])) (w.setCell ⟨b, 0, none⟩ v) := by
  have hl : (s.data.toList.takeWhile dg).length = j := by
    rw [ht, List.length_take, Array.length_toList]
    exact Nat.min_eq_left hjs
  unfold DigPost
  rw [hl, if_pos ⟨hj, by omega⟩, ht, hn, hv]
  exact ⟨rfl, rfl⟩
theorem str_drop (s : ByteArray) (j : Nat) : Value.string (s.extract j s.size) = .string ⟨(s.data.toList.drop j).toArray⟩ := by
  congr 1
  apply ByteArray.ext
  apply Array.ext'
  rw [Lib.extract_data]
  simp [List.take_of_length_le]
set_option maxHeartbeats 400000 in
theorem Tryz.fxdigits_any (b : Nat) (s : ByteArray) (hs : s.size ≤ 9223372036854775807) (m : Int) (a most : Nat) (h0 : 0 ≤ m) (h1 : m < ((10 ^ a : Nat) : Int)) (hm0 : 1 ≤ most) (hm : a + most ≤ 18) (w : World)
    (hc : w.cell? ⟨b, 0, none⟩ = some (.string s)) (hf : w.frozen? ⟨b, 0, none⟩ = false) :
    Calls Tryz.prog 85 #[.pointer (some ⟨b, 0, none⟩), .int .i64 m, .int .i64 (most : Int)] w fun e w' => DigPost b s.data.toList m most w e w' := by
  have h1' := Lib.hid h1
  clear h1
  go_enter Tryz.func85, Tryz.ntmps85
  go_wp2
  go_loop [1, 8] (fun v i => ∃ (j : Nat) (n : Int), j ≤ s.size ∧ j ≤ most ∧ i = .int .i64 (j : Int) ∧ v = .int .i64 n ∧ Hid (n = valF m (s.data.toList.take j) ∧ ∀ c ∈ s.data.toList.take j, dg c = true)) (fun _ i => s.size - (intOf i).toNat)
  case atStart => exact ⟨0, m, Nat.zero_le _, Nat.zero_le _, rfl, rfl, ⟨by simp [valF], by simp⟩⟩
  case round =>
    obtain ⟨j, n, hj, hjm, rfl, rfl, HN⟩ := hrel
    by_cases hlt : j < s.size
    · have hget : s.data.toList[j]? = some s[j] := by
        have h' : j < s.data.toList.length := by simpa using hlt
        rw [List.getElem?_eq_getElem h']; rfl
      by_cases hd : dg s[j] = true
      · have HM : Hid (j < (s.data.toList.takeWhile dg).length) := takeWhile_more HN.out.2 hget hd
        have hd2 := dg_bd hd
        have HD := Lib.hid hd
        have HS : Hid (s.data.toList.take (j + 1) = s.data.toList.take j ++ [s[j]]) := take_snoc hget
        clear hd hget
        by_cases hjq : j = most
        · subst hjq
          clear hd2
          go_wp2_with (go_at_call 101; refine (Tryz.digit_yes HD.out _).mono ?_; rintro e w' ⟨rfl, rfl⟩)
          exact ⟨rfl, dig_up (by have := HM.out; omega)⟩
        · have hnb := valF_bd m h0 h1'.out (s.data.toList.take j) HN.out.2
          rw [← HN.out.1] at hnb
          have hnq : n ≤ 99999999999999999 := by
            have e1 : (s.data.toList.take j).length ≤ j := List.length_take_le _ _
            have e2 : 10 ^ (a + (s.data.toList.take j).length) ≤ 10 ^ 17 := Nat.pow_le_pow_right (by omega) (by omega)
            omega
          have hn0 := hnb.1
          clear hnb
          have HX : Hid (10 * n + ((s[j].toNat : Int) - 48) = valF m (s.data.toList.take (j + 1)) ∧ ∀ c ∈ s.data.toList.take (j + 1), dg c = true) := by
            refine ⟨by rw [HS.out, valF_snoc, ← HN.out.1], ?_⟩
            rw [HS.out]
            intro c hc'
            rcases List.mem_append.1 hc' with h | h
            · exact HN.out.2 c h
            · rw [List.mem_singleton.1 h]; exact HD.out
          go_wp2_with (go_at_call 101; refine (Tryz.digit_yes HD.out _).mono ?_; rintro e w' ⟨rfl, rfl⟩)
          go_round
          case rel => exact ⟨j + 1, 10 * n + ((s[j].toNat : Int) - 48), by omega, by omega, by go_num, by go_num, HX⟩
          case measure => simp [intOf]; omega
      · simp only [Bool.not_eq_true] at hd
        have HT : Hid (s.data.toList.takeWhile dg = s.data.toList.take j) := takeWhile_stop HN.out.2 (.inr ⟨_, hget, hd⟩)
        have HD := Lib.hid hd
        clear hd hget
        by_cases hj0 : 1 ≤ j
        · have hj1 : ((j : Int) == 0) = false := by simp; omega
          go_wp2_with (go_at_call 101; refine (Tryz.digit_no HD.out _).mono ?_; rintro e w' ⟨rfl, rfl⟩)
          go_ret2
          exact dig_ret hj0 (by omega) hjm HN.out.1 HT.out (str_drop s j)
        · obtain rfl : j = 0 := by omega
          go_wp2_with (go_at_call 101; refine (Tryz.digit_no HD.out _).mono ?_; rintro e w' ⟨rfl, rfl⟩)
          exact ⟨rfl, dig_up (by have := HT.out; simp [this])⟩
    · have hge : s.size ≤ j := by omega
      have HT : Hid (s.data.toList.takeWhile dg = s.data.toList.take j) := takeWhile_stop HN.out.2 (.inl (by rw [Array.length_toList]; exact hge))
      by_cases hj0 : 1 ≤ j
      · have hj1 : ((j : Int) == 0) = false := beq_eq_false_iff_ne.2 (by omega)
        go_wp2
        go_ret2
        exact dig_ret hj0 (by omega) hjm HN.out.1 HT.out (str_drop s j)
      · obtain rfl : j = 0 := by omega
        go_wp2
        exact ⟨rfl, dig_up (by have := HT.out; simp [this])⟩
#print axioms Tryz.fxdigits_any
end Go.Proofs
/- The two closures of package fixed that take a number from a reader. Conditions: the reader is a block of one cell. -/
namespace Go.Fx
/-- The digits ahead. -/
def digs (l : List UInt8) : List UInt8 := l.takeWhile dg
def sgn (l : List UInt8) : Int := if headB 45 l then -1 else 1
/-- What Int's reader takes: the number, its places, what is left. -/
def numI (l : List UInt8) : Option (Int × Nat × List UInt8) :=
  if 1 ≤ (digs (tailIf 45 l)).length ∧ (digs (tailIf 45 l)).length ≤ 12 then
    some (sgn l * valF 0 (digs (tailIf 45 l)), 0, (tailIf 45 l).drop (digs (tailIf 45 l)).length)
  else none
/-- What Read's reader takes behind the digits d, with a sign g. -/
def numT (g n : Int) (r : List UInt8) : Option (Int × Nat × List UInt8) :=
  if headB 46 r = true then
    if 1 ≤ (digs r.tail).length ∧ (digs r.tail).length ≤ 6 then some (g * valF n (digs r.tail), (digs r.tail).length, r.tail.drop (digs r.tail).length) else none
  else some (g * n, 0, r)
def numR (l : List UInt8) : Option (Int × Nat × List UInt8) :=
  if 1 ≤ (digs (tailIf 45 l)).length ∧ (digs (tailIf 45 l)).length ≤ 12 then
    numT (sgn l) (valF 0 (digs (tailIf 45 l))) ((tailIf 45 l).drop (digs (tailIf 45 l)).length)
  else none
theorem digs_all {l : List UInt8} : ∀ c ∈ digs l, dg c = true := fun _ h => by
  have := List.all_takeWhile (p := dg) (l := l)
  rw [List.all_eq_true] at this
  exact this _ h
theorem sgn_wrap (l : List UInt8) {v : Int} (h0 : 0 ≤ v) (h1 : v ≤ 1000000000000000000) : RowKit.wrap64 (sgn l * v) = sgn l * v := by
  have : sgn l * v = v ∨ sgn l * v = -v := by unfold sgn; split <;> omega
  unfold RowKit.wrap64
  omega
theorem digs_val (l : List UInt8) {m : Int} {a : Nat} (h0 : 0 ≤ m) (h1 : m < ((10 ^ a : Nat) : Int)) {k : Nat} (hk : a + (digs l).length ≤ k) : 0 ≤ valF m (digs l) ∧ valF m (digs l) < ((10 ^ k : Nat) : Int) := by
  have := valF_bd m h0 h1 (digs l) digs_all
  have e : 10 ^ (a + (digs l).length) ≤ 10 ^ k := Nat.pow_le_pow_right (by omega) hk
  omega
theorem sgn_cases (l : List UInt8) : sgn l = 1 ∨ sgn l = -1 := by unfold sgn; split <;> simp
end Go.Fx
namespace Go.Proofs
open Go.RowKit Go.Fx
attribute [local go_sem] Oper.semAt_some

/-- All that was there is as it was, but for block b. -/
structure But (b : Nat) (w w' : World) : Prop where
  os : w'.os = w.os
  tape : w'.tape = w.tape
  output : w'.output = w.output
  size : w.heap.size ≤ w'.heap.size
  block : ∀ k, k < w.heap.size → k ≠ b → w'.heap[k]? = w.heap[k]?
theorem But.refl (b : Nat) (w : World) : But b w w := ⟨rfl, rfl, rfl, Nat.le_refl _, fun _ _ _ => rfl⟩
theorem But.trans {b : Nat} {x y z : World} (h : But b x y) (k : But b y z) : But b x z :=
  ⟨k.os.trans h.os, k.tape.trans h.tape, k.output.trans h.output, Nat.le_trans h.size k.size, fun i hi hn => (k.block i (Nat.lt_of_lt_of_le hi h.size) hn).trans (h.block i hi hn)⟩
theorem But.alloc {b : Nat} {x y : World} (h : But b x y) (o : Obj) : But b x (y.alloc o) :=
  h.trans ⟨rfl, rfl, rfl, by simp, fun k hk _ => Below.heap_alloc _ _ _ hk⟩
theorem But.own {b : Nat} {x y : World} (h : But b x y) {p : Addr} (hp : p.block = b) (v : Value) : But b x (y.setCell p v) :=
  h.trans ⟨rfl, rfl, rfl, by simp [World.setCell], fun k _ hn => Below.heap_setCell _ _ _ _ (by omega)⟩
theorem But.new {b : Nat} {x y : World} (h : But b x y) {p : Addr} (hp : x.heap.size ≤ p.block) (v : Value) : But b x (y.setCell p v) :=
  ⟨h.os, h.tape, h.output, by simp [World.setCell]; exact h.size, fun k hk hn => (Below.heap_setCell _ _ _ _ (by omega)).trans (h.block k hk hn)⟩
theorem But.below {b B : Nat} {x y : World} (h : But b x y) (hb : B ≤ b) (hB : B ≤ x.heap.size) : Below B x y :=
  ⟨h.os, h.tape, h.output, h.size, fun k hk => h.block k (by omega) (by omega)⟩
theorem But.cell {b k : Nat} {x y : World} (h : But b x y) (hk : k < x.heap.size) (hn : k ≠ b) (o : Nat) : y.cell? ⟨k, o, none⟩ = x.cell? ⟨k, o, none⟩ := World.cell?_of_block (w := x) (h.block k hk hn)
theorem But.frozen {b k : Nat} {x y : World} (h : But b x y) (hk : k < x.heap.size) (hn : k ≠ b) (o : Nat) : y.frozen? ⟨k, o, none⟩ = x.frozen? ⟨k, o, none⟩ := World.frozen?_of_block (w := x) (h.block k hk hn)
/-- The two cells of a number that was made, behind what wrote to block b alone. -/
theorem But.fresh {b : Nat} {w y : World} {t : TypeId} {u v : Value} (h : But b (w.alloc (.cells #[u, v] t)) y) (hb : b < w.heap.size) :
    y.cell? ⟨w.heap.size, 0, none⟩ = some u ∧ y.cell? ⟨w.heap.size, 1, none⟩ = some v ∧ y.frozen? ⟨w.heap.size, 0, none⟩ = false ∧ y.frozen? ⟨w.heap.size, 1, none⟩ = false := by
  refine ⟨?_, ?_, ?_, ?_⟩
  · rw [h.cell (by simp) (by omega)]; simp [go_sem]
  · rw [h.cell (by simp) (by omega)]; simp [go_sem]
  · rw [h.frozen (by simp) (by omega)]; simp [go_sem]
  · rw [h.frozen (by simp) (by omega)]; simp [go_sem]
theorem tailIf_len {c : UInt8} {l : List UInt8} {n : Nat} (h : l.length ≤ n) : (tailIf c l).length ≤ n := by
  unfold tailIf
  split
  · rw [List.length_tail]; omega
  · exact h
theorem Boxed.apart {W : World} {b : Nat} {t : TypeId} {v : Value} (h : Boxed W b t v) {p : Addr} (hp : b ≠ p.block) (u : Value) : Boxed (W.setCell p u) b t v := (Below.heap_setCell W p u b hp).trans h
theorem Boxed.below {B b : Nat} {W W' : World} {t : TypeId} {v : Value} (h : Boxed W b t v) (hb : Below B W W') (hlt : b < B) : Boxed W' b t v := (hb.block b hlt).trans h

theorem Tryz.skip_box {b : Nat} {l : List UInt8} (c : UInt8) {w : World} (h : Boxed w b 133 (.string ⟨l.toArray⟩)) :
    Calls Tryz.prog 100 #[.pointer (some ⟨b, 0, none⟩), .string ⟨#[c]⟩] w fun e w' => e = .returned (.bool (headB c l)) ∧ Boxed w' b 133 (.string ⟨(tailIf c l).toArray⟩) ∧ But b w w' :=
  (Tryz.skip_any b l c w h.cell h.frozen).mono fun _ _ ⟨a, e⟩ => by subst e; exact ⟨a, h.set _, (But.refl b _).own (p := ⟨b, 0, none⟩) rfl _⟩
theorem Tryz.sign_box {b : Nat} {l : List UInt8} {w : World} (h : Boxed w b 133 (.string ⟨l.toArray⟩)) :
    Calls Tryz.prog 84 #[.pointer (some ⟨b, 0, none⟩)] w fun e w' => e = .returned (.int .i64 (sgn l)) ∧ Boxed w' b 133 (.string ⟨(tailIf 45 l).toArray⟩) ∧ But b w w' :=
  (Tryz.sign_any b l w h.cell h.frozen).mono fun _ _ ⟨a, e⟩ => by subst e; exact ⟨a, h.set _, (But.refl b _).own (p := ⟨b, 0, none⟩) rfl _⟩
theorem Tryz.digits_yes {b : Nat} {l : List UInt8} {w : World} (h : Boxed w b 133 (.string ⟨l.toArray⟩)) (hl : l.length ≤ 9223372036854775807) (m : Int) (a most : Nat) (h0 : 0 ≤ m) (h1 : m < ((10 ^ a : Nat) : Int)) (hm0 : 1 ≤ most) (hm : a + most ≤ 18)
    (hd : 1 ≤ (digs l).length ∧ (digs l).length ≤ most) :
    Calls Tryz.prog 85 #[.pointer (some ⟨b, 0, none⟩), .int .i64 m, .int .i64 (most : Int)] w fun e w' => e = .returned (.tuple #[.int .i64 (valF m (digs l)), .int .i64 ((digs l).length : Int)]) ∧ Boxed w' b 133 (.string ⟨(l.drop (digs l).length).toArray⟩) ∧ But b w w' := by
  refine (Tryz.fxdigits_any b ⟨l.toArray⟩ (show l.toArray.size ≤ _ by simpa using hl) m a most h0 h1 hm0 hm w h.cell h.frozen).mono fun e w' hp => ?_
  unfold DigPost at hp
  rw [if_pos (by unfold digs at hd; simp only; omega)] at hp
  obtain ⟨x, e⟩ := hp
  subst e
  simp only at x ⊢
  exact ⟨x, h.set _, (But.refl b _).own (p := ⟨b, 0, none⟩) rfl _⟩
theorem Tryz.digits_no {b : Nat} {l : List UInt8} {w : World} (h : Boxed w b 133 (.string ⟨l.toArray⟩)) (hl : l.length ≤ 9223372036854775807) (m : Int) (a most : Nat) (h0 : 0 ≤ m) (h1 : m < ((10 ^ a : Nat) : Int)) (hm0 : 1 ≤ most) (hm : a + most ≤ 18)
    (hd : ¬ (1 ≤ (digs l).length ∧ (digs l).length ≤ most)) :
    Calls Tryz.prog 85 #[.pointer (some ⟨b, 0, none⟩), .int .i64 m, .int .i64 (most : Int)] w fun e w' => e = .panicked [{ v := .iface 25 (.int .i64 20), recovered := false }] ∧ But b w w' := by
  refine (Tryz.fxdigits_any b ⟨l.toArray⟩ (show l.toArray.size ≤ _ by simpa using hl) m a most h0 h1 hm0 hm w h.cell h.frozen).mono fun e w' hp => ?_
  unfold DigPost at hp
  rw [if_neg (by unfold digs at hd; simp only; omega)] at hp
  obtain ⟨x, e⟩ := hp
  subst e
  exact ⟨x, But.refl _ _⟩
/-- How a closure ends that takes a number. -/
def NumPost (b : Nat) (o : Option (Int × Nat × List UInt8)) (w : World) (e : Ending) (w' : World) : Prop :=
  match o with
  | some (m, s, r) => e = .returned (.agg #[.int .i64 m, .int .i64 (s : Int)]) ∧ Boxed w' b 133 (.string ⟨r.toArray⟩) ∧ But b w w'
  | none => e = up20 ∧ But b w w'

set_option maxHeartbeats 400000 in
theorem Tryz.Int1_any {b : Nat} {l : List UInt8} {w : World} (h : Boxed w b 133 (.string ⟨l.toArray⟩)) (hl : l.length ≤ 9223372036854775807) :
    Calls Tryz.prog 83 #[.pointer (some ⟨b, 0, none⟩)] w fun e w' => NumPost b (numI l) w e w' := by
  by_cases hd : 1 ≤ (digs (tailIf 45 l)).length ∧ (digs (tailIf 45 l)).length ≤ 12
  · have hb := h.alloc (.cells #[.int .i64 0, .int .i64 0] 115)
    have hv := digs_val (tailIf 45 l) (m := 0) (a := 0) (k := 12) (by omega) (by decide) (by omega)
    have HW : Hid (wrap64 (sgn l * valF 0 (digs (tailIf 45 l))) = sgn l * valF 0 (digs (tailIf 45 l))) := sgn_wrap l hv.1 (by have := hv.2; simp at this; omega)
    clear hv
    have HD := Lib.hid hd
    have hn := h.lt
    clear hd
    go_enter Tryz.func83, Tryz.ntmps83
    go_wp2_with (go_at_call 84; refine (Tryz.sign_box hb).mono ?_; rintro e w1 ⟨rfl, hb1, hk1⟩)
    go_wp2_with (go_at_call 85; refine (Tryz.digits_yes hb1 (tailIf_len hl) 0 0 12 (by omega) (by decide) (by omega) (by omega) HD.out).mono ?_; rintro e w2 ⟨rfl, hb2, hk2⟩; obtain ⟨c0, c1, f0, f1⟩ := (hk1.trans hk2).fresh hn)
    refine bodyPost_ret (v := .agg #[.int .i64 (sgn l * valF 0 (digs (tailIf 45 l))), .int .i64 ((0 : Nat) : Int)]) (by rw [HW.out]; simp [results, Tryz.results83, go_sem, c0, c1]) rfl ?_
    rw [show numI l = some _ from by unfold numI; rw [if_pos HD.out]]
    exact ⟨rfl, Boxed.apart (Boxed.apart hb2 (by simp; omega) _) (by simp; omega) _, ((((But.refl b w).alloc _).trans (hk1.trans hk2)).new (by simp) _).new (by simp) _⟩
  · have hb := h.alloc (.cells #[.int .i64 0, .int .i64 0] 115)
    have HD := Lib.hid hd
    have hn := h.lt
    clear hd
    go_enter Tryz.func83, Tryz.ntmps83
    go_wp2_with (go_at_call 84; refine (Tryz.sign_box hb).mono ?_; rintro e w1 ⟨rfl, hb1, hk1⟩)
    go_wp2_with (go_at_call 85; refine (Tryz.digits_no hb1 (tailIf_len hl) 0 0 12 (by omega) (by decide) (by omega) (by omega) HD.out).mono ?_; rintro e w2 ⟨rfl, hk2⟩)
    refine ⟨rfl, ?_⟩
    rw [show numI l = none from by unfold numI; rw [if_neg HD.out]]
    exact ⟨rfl, ((But.refl b w).alloc _).trans (hk1.trans hk2)⟩

theorem tailIf_no {c : UInt8} {l : List UInt8} (h : headB c l = false) : tailIf c l = l := by unfold tailIf; rw [h]; rfl
theorem tailIf_yes {c : UInt8} {l : List UInt8} (h : headB c l = true) : tailIf c l = l.tail := by unfold tailIf; rw [h]; rfl



#print axioms Tryz.Int1_any
end Go.Proofs
/- fixed.To and the document's To. Conditions: a number of which something is promised. -/
namespace Go.Fx
/-- fixed.To: the number and the error. -/
def toN (m s k : Int) : Int × Int :=
  if k < 0 ∨ 6 < k then (0, 1) else
  if s ≤ k then (if fitB (m * p10 (k - s)) = true then (m * p10 (k - s), 0) else (0, 2)) else
  if m.tmod (p10 (s - k)) = 0 then (if fitB (m.tdiv (p10 (s - k))) = true then (m.tdiv (p10 (s - k)), 0) else (0, 2)) else (0, 21)
theorem fitB_of {m : Int} (h : fitB m = true) : -100000000 ≤ m ∧ m ≤ 100000000 := by simpa [fitB] using h
theorem fitB_not {m : Int} (h : ¬ fitB m = true) : m < -100000000 ∨ 100000000 < m := by
  by_cases h1 : m < -100000000
  · exact .inl h1
  · refine .inr ?_
    by_cases h2 : m ≤ 100000000
    · exact absurd (by simp [fitB]; omega) h
    · omega
theorem tdiv_bd {m t B : Int} (h1 : -B ≤ m) (h2 : m ≤ B) (ht : 1 ≤ t) : -B ≤ m.tdiv t ∧ m.tdiv t ≤ B := by
  rcases tdiv_cases m t with ⟨a, b, _⟩ | ⟨a, b, _⟩
  · have h3 : 0 ≤ m / t := Int.ediv_nonneg a (by omega)
    have h4 : m / t ≤ m := Int.ediv_le_self t a
    omega
  · have h3 : 0 ≤ (-m) / t := Int.ediv_nonneg (by omega) (by omega)
    have h4 : (-m) / t ≤ -m := Int.ediv_le_self t (by omega)
    omega
end Go.Fx
namespace Go.Proofs
open Go.RowKit Go.Fx
attribute [local go_sem] Oper.semAt_some

theorem ret_two {a b : Int} {x : Int × Int} (h : x = (a, b)) : Ending.returned (.tuple #[.int .i64 a, .int .i64 b]) = .returned (.tuple #[.int .i64 x.1, .int .i64 x.2]) := by rw [h]
theorem Tryz.fits_yes {m : Int} (h : fitB m = true) (w : World) : Calls Tryz.prog 99 #[.int .i64 m] w fun e w' => e = .returned (.bool true) ∧ w = w' := by
  have := Tryz.fits_any m w
  rw [h] at this
  exact this
theorem Tryz.fits_no {m : Int} (h : ¬ fitB m = true) (w : World) : Calls Tryz.prog 99 #[.int .i64 m] w fun e w' => e = .returned (.bool false) ∧ w = w' := by
  have := Tryz.fits_any m w
  simp only [Bool.not_eq_true] at h
  rw [h] at this
  exact this




end Go.Proofs
/- fixed.take, Int and Read. Conditions: a text that a string can be. -/
namespace Go.Proofs
open Go.RowKit Go.Fx
attribute [local go_sem] Oper.semAt_some

theorem Tryz.end_panic (b : Nat) (l : List UInt8) (hl : l ≠ []) (w : World) (hc : w.cell? ⟨b, 0, none⟩ = some (.string ⟨l.toArray⟩)) :
    Calls Tryz.prog 98 #[.pointer (some ⟨b, 0, none⟩)] w fun e w' => e = .panicked [{ v := .iface 25 (.int .i64 20), recovered := false }] ∧ w = w' :=
  Tryz.end_some b l hl w hc
theorem mode_same {c : Frame} {m : FrameMode} (h : c.mode = m) : c = { c with mode := m } := by subst h; rfl
theorem Tryz.catch_idle (p q : Addr) (w : World) :
    CallsD Tryz.prog 96 #[.pointer (some p), .pointer (some q)] .returning w fun e u' w' => e = .returned (.tuple #[]) ∧ u' = .returning ∧ w' = w := by
  refine callsD_of_wpS Tryz.func96 rfl fun c₀ cs hu => ?_
  simp only [Tryz.ntmps96, List.size_toArray, List.length_cons, List.length_nil, Nat.reduceAdd, Nat.reduceSub, Array.replicate_succ, Array.replicate_zero, List.push_toArray, List.append_toArray, List.nil_append, List.cons_append]
  apply wpS_seq
  apply wpS_region
  simp [wpOpsS, go_sem, recoverD, hu, Exit.thenS]
  refine wpS_of_wp ?_
  go_wp2
  exact ⟨rfl, .returning, by rw [← mode_same hu], .tuple #[], by simp [results, Tryz.results96, go_sem], rfl, rfl, rfl⟩
theorem Tryz.catch_panic (b c : Nat) (hbc : b ≠ c) (w : World) (k : Int) (older : List PanicEntry) (u0 u1 u2 : Value) (h0 : w.cell? ⟨b, 0, none⟩ = some u0) (h1 : w.cell? ⟨b, 1, none⟩ = some u1) (h2 : w.cell? ⟨c, 0, none⟩ = some u2)
    (f0 : w.frozen? ⟨b, 0, none⟩ = false) (f1 : w.frozen? ⟨b, 1, none⟩ = false) (f2 : w.frozen? ⟨c, 0, none⟩ = false) :
    CallsD Tryz.prog 96 #[.pointer (some ⟨b, 0, none⟩), .pointer (some ⟨c, 0, none⟩)] (.panicking ({ v := .iface 25 (.int .i64 k), recovered := false } :: older)) w fun e u' w' =>
      e = .returned (.tuple #[]) ∧ u' = .panicking ({ v := .iface 25 (.int .i64 k), recovered := true } :: older) ∧ w' = (((w.setCell ⟨b, 0, none⟩ (.int .i64 0)).setCell ⟨b, 1, none⟩ (.int .i64 0)).setCell ⟨c, 0, none⟩ (.int .i64 k)).drew := by
  refine callsD_of_wpS Tryz.func96 rfl fun c₀ cs hu => ?_
  simp only [Tryz.ntmps96, List.size_toArray, List.length_cons, List.length_nil, Nat.reduceAdd, Nat.reduceSub, Array.replicate_succ, Array.replicate_zero, List.push_toArray, List.append_toArray, List.nil_append, List.cons_append]
  apply wpS_seq
  apply wpS_region
  simp [wpOpsS, go_sem, recoverD, hu, Exit.thenS]
  refine wpS_of_wp ?_
  clear hu
  have hta : ∀ W, (Instr.typeAssert (.iface 25 (.int .i64 k)) 20 25 false).run Tryz.prog W = .ok (.int .i64 k) W := fun _ => by kernel_rfl
  go_wp2
  go_region
  exact ⟨rfl, _, rfl, .tuple #[], by simp [results, Tryz.results96, go_sem], rfl, rfl, rfl⟩

/-- What take tells: the number's two parts, and the error. -/
def takeN : Option (Int × Nat × List UInt8) → Int × Nat × Int
  | none => (0, 0, 20)
  | some (m, s, r) => if r = [] then (if fitB (least s m).1 = true then ((least s m).1, (least s m).2, 0) else (0, 0, 2)) else (0, 0, 20)

theorem boxed_at {W : World} {B : Nat} {t : TypeId} {v : Value} (h : B = W.heap.size) : Boxed (W.alloc (.cells #[v] t)) B t v := by subst h; exact Boxed.new _ _ _
/-- Where take stands: its two results, and its reader. -/
structure TakeSt (w : World) (r : List UInt8) (x y k : Int) (W : World) : Prop where
  c0 : W.cell? ⟨w.heap.size, 0, none⟩ = some (.int .i64 x)
  c1 : W.cell? ⟨w.heap.size, 1, none⟩ = some (.int .i64 y)
  c2 : W.cell? ⟨w.heap.size + 1, 0, none⟩ = some (.int .i64 k)
  f0 : W.frozen? ⟨w.heap.size, 0, none⟩ = false
  f1 : W.frozen? ⟨w.heap.size, 1, none⟩ = false
  f2 : W.frozen? ⟨w.heap.size + 1, 0, none⟩ = false
  box : Boxed W (w.heap.size + 1 + 1) 133 (.string ⟨r.toArray⟩)
  below : Below w.heap.size w W
theorem take_cells0 {w w1 : World} {v : Value} (h : But (w.heap.size + 1 + 1) (((w.alloc (.cells #[.int .i64 0, .int .i64 0] 115)).alloc (.cells #[.int .i64 0] 25)).alloc (.cells #[v] 133)) w1) :
    w1.cell? ⟨w.heap.size, 0, none⟩ = some (.int .i64 0) ∧ w1.cell? ⟨w.heap.size, 1, none⟩ = some (.int .i64 0) ∧ w1.cell? ⟨w.heap.size + 1, 0, none⟩ = some (.int .i64 0) ∧
    w1.frozen? ⟨w.heap.size, 0, none⟩ = false ∧ w1.frozen? ⟨w.heap.size, 1, none⟩ = false ∧ w1.frozen? ⟨w.heap.size + 1, 0, none⟩ = false ∧ Below w.heap.size w w1 := by
  refine ⟨?_, ?_, ?_, ?_, ?_, ?_, ?_⟩
  · rw [h.cell (by simp; omega) (by omega)]; simp [go_sem]
  · rw [h.cell (by simp; omega) (by omega)]; simp [go_sem]
  · rw [h.cell (by simp) (by omega)]; simp [go_sem]
  · rw [h.frozen (by simp; omega) (by omega)]; simp [go_sem]
  · rw [h.frozen (by simp; omega) (by omega)]; simp [go_sem]
  · rw [h.frozen (by simp) (by omega)]; simp [go_sem]
  · exact ((((Below.refl _ w).alloc (Nat.le_refl _) _).alloc (by simp) _).alloc (by simp; omega) _).trans (h.below (by omega) (by simp; omega))
theorem take_cells {w w1 : World} {r : List UInt8} {v : Value} (h : But (w.heap.size + 1 + 1) (((w.alloc (.cells #[.int .i64 0, .int .i64 0] 115)).alloc (.cells #[.int .i64 0] 25)).alloc (.cells #[v] 133)) w1) (hb : Boxed w1 (w.heap.size + 1 + 1) 133 (.string ⟨r.toArray⟩)) :
    TakeSt w r 0 0 0 w1 := by
  obtain ⟨a, b, c, d, e, f, g⟩ := take_cells0 h
  exact ⟨a, b, c, d, e, f, hb, g⟩
theorem TakeSt.grown {w W W' : World} {r : List UInt8} {x y k : Int} (h : TakeSt w r x y k W) (hb : Below W.heap.size W W') : TakeSt w r x y k W' := by
  have hl : w.heap.size + 1 + 1 < W.heap.size := h.box.lt
  obtain ⟨hc, hf⟩ := bcell hb
  exact ⟨(hc _ _ (by omega)).trans h.c0, (hc _ _ (by omega)).trans h.c1, (hc _ _ (by omega)).trans h.c2, (hf _ _ (by omega)).trans h.f0, (hf _ _ (by omega)).trans h.f1, (hf _ _ (by omega)).trans h.f2,
    Boxed.below h.box hb hl, h.below.trans (hb.mono h.below.size)⟩
theorem TakeSt.put {w W : World} {r : List UInt8} {x y k : Int} (h : TakeSt w r x y k W) (x' y' : Int) :
    TakeSt w r x' y' k ((W.setCell ⟨w.heap.size, 0, none⟩ (.int .i64 x')).setCell ⟨w.heap.size, 1, none⟩ (.int .i64 y')) := by
  obtain ⟨c0, c1, c2, f0, f1, f2, hb, hB⟩ := h
  exact ⟨by simp [go_sem, c0], by simp [go_sem, c1], by simp [go_sem, c2], by simp [go_sem, f0], by simp [go_sem, f1], by simp [go_sem, f2],
    Boxed.apart (Boxed.apart hb (by simp; omega) _) (by simp; omega) _, (hB.setCell (by simp) _).setCell (by simp) _⟩
set_option maxHeartbeats 400000 in
theorem Tryz.take_none (F : FuncId) (hF : ∀ args W, (callFunc F args).run Tryz.prog W = .ok (.enter F args) W) (l : List UInt8) (H : ∀ (b : Nat) (W : World), Boxed W b 133 (.string ⟨l.toArray⟩) → Calls Tryz.prog F #[.pointer (some ⟨b, 0, none⟩)] W fun e w' => e = .panicked [{ v := .iface 25 (.int .i64 20), recovered := false }] ∧ But b W w') (w : World) :
    Calls Tryz.prog 82 #[.string ⟨l.toArray⟩, .func (.func F) #[] #[]] w fun e w' => e = .returned (.tuple #[.agg #[.int .i64 0, .int .i64 0], .int .i64 20]) ∧ Below w.heap.size w w' := by
  have hmf : ∀ (fn : Fn) (first cap : Array Value) (w : World), (Instr.makeFunc fn first cap).run Tryz.prog w = .ok (.func fn first cap) w := fun _ _ _ _ => rfl
  have HH := Lib.hid H
  clear H
  go_enter_defers Tryz.func82, Tryz.ntmps82
  go_wp2_with (refine (HH.out (w.heap.size + 1 + 1) _ (boxed_at (by simp))).mono ?_; rintro e w1 ⟨rfl, hk⟩; obtain ⟨c0, c1, c2, f0, f1, f2, hB⟩ := take_cells0 hk)
  refine leaves_cons (f := 96) (args := #[.pointer (some ⟨w.heap.size, 0, none⟩), .pointer (some ⟨w.heap.size + 1, 0, none⟩)]) (by simp) (by simp [go_sem]) ?_
  refine (Tryz.catch_panic w.heap.size (w.heap.size + 1) (by omega) _ 20 [] _ _ _ c0 c1 c2 f0 f1 f2).mono ?_
  rintro e u' w'' ⟨rfl, rfl, rfl⟩
  refine ⟨.tuple #[.agg #[.int .i64 0, .int .i64 0], .int .i64 20], by simp [results, Tryz.results82, go_sem, c0, c1, c2], rfl, ?_⟩
  exact (((hB.setCell (by simp) _).setCell (by simp) _).setCell (by simp) _).drew

set_option maxHeartbeats 800000 in
theorem Tryz.take_rest (F : FuncId) (hF : ∀ args W, (callFunc F args).run Tryz.prog W = .ok (.enter F args) W) (l : List UInt8) (m : Int) (s : Nat) (r : List UInt8) (x : Int) (y : Nat) (hl : least s m = (x, y)) (hm0 : -9223372036854775807 ≤ m) (hm1 : m ≤ 9223372036854775807) (hs : s ≤ 6) (hr : r ≠ [])
    (H : ∀ (b : Nat) (W : World), Boxed W b 133 (.string ⟨l.toArray⟩) → Calls Tryz.prog F #[.pointer (some ⟨b, 0, none⟩)] W fun e w' => e = .returned (.agg #[.int .i64 m, .int .i64 (s : Int)]) ∧ Boxed w' b 133 (.string ⟨r.toArray⟩) ∧ But b W w') (w : World) :
    Calls Tryz.prog 82 #[.string ⟨l.toArray⟩, .func (.func F) #[] #[]] w fun e w' => e = .returned (.tuple #[.agg #[.int .i64 0, .int .i64 0], .int .i64 20]) ∧ Below w.heap.size w w' := by
  have hmf : ∀ (fn : Fn) (first cap : Array Value) (w : World), (Instr.makeFunc fn first cap).run Tryz.prog w = .ok (.func fn first cap) w := fun _ _ _ _ => rfl
  have HH := Lib.hid H
  have HL : Hid (∀ W, Calls Tryz.prog 97 #[.agg #[.int .i64 m, .int .i64 (s : Int)]] W fun e w' => e = .returned (.agg #[.int .i64 x, .int .i64 (y : Int)]) ∧ Below W.heap.size W w') := by
    intro W
    have := Tryz.Least_any m s hm0 hm1 hs W
    rwa [hl] at this
  have HR := Lib.hid hr
  clear H hr hl
  go_enter_defers Tryz.func82, Tryz.ntmps82
  go_wp2_with (refine (HH.out (w.heap.size + 1 + 1) _ (boxed_at (by simp))).mono ?_; rintro e w1 ⟨rfl, hb, hk⟩; have st := take_cells hk hb; clear hk hb)
  go_wp2_with (go_at_call 97; refine (HL.out _).mono ?_; rintro e w2 ⟨rfl, hg⟩; have st2 := st.grown hg; clear st hg; obtain ⟨c0, c1, c2, f0, f1, f2, hb, hB⟩ := id st2)
  have st3 := st2.put x (y : Int)
  clear c0 c1 c2 f0 f1 f2 hb hB st2
  generalize World.setCell (World.setCell w2 _ _) _ _ = W3 at st3 ⊢
  obtain ⟨c0, c1, c2, f0, f1, f2, hb, hB⟩ := st3
  go_wp2_with (go_at_call 98; refine (Tryz.end_panic _ r HR.out _ hb.cell).mono ?_; rintro e w3 ⟨rfl, rfl⟩)
  refine leaves_cons (f := 96) (args := #[.pointer (some ⟨w.heap.size, 0, none⟩), .pointer (some ⟨w.heap.size + 1, 0, none⟩)]) (by simp) (by simp [go_sem]) ?_
  refine (Tryz.catch_panic w.heap.size (w.heap.size + 1) (by omega) _ 20 [] _ _ _ c0 c1 c2 f0 f1 f2).mono ?_
  rintro e u' w'' ⟨rfl, rfl, rfl⟩
  refine ⟨.tuple #[.agg #[.int .i64 0, .int .i64 0], .int .i64 20], by simp [results, Tryz.results82, go_sem, c0, c1, c2], rfl, ?_⟩
  exact (((hB.setCell (by simp) _).setCell (by simp) _).setCell (by simp) _).drew

set_option maxHeartbeats 800000 in
theorem Tryz.take_full (F : FuncId) (hF : ∀ args W, (callFunc F args).run Tryz.prog W = .ok (.enter F args) W) (l : List UInt8) (m : Int) (s : Nat) (r : List UInt8) (x : Int) (y : Nat) (hl : least s m = (x, y)) (hm0 : -9223372036854775807 ≤ m) (hm1 : m ≤ 9223372036854775807) (hs : s ≤ 6) (hr : ¬ fitB x = true) (hr0 : r = [])
    (H : ∀ (b : Nat) (W : World), Boxed W b 133 (.string ⟨l.toArray⟩) → Calls Tryz.prog F #[.pointer (some ⟨b, 0, none⟩)] W fun e w' => e = .returned (.agg #[.int .i64 m, .int .i64 (s : Int)]) ∧ Boxed w' b 133 (.string ⟨r.toArray⟩) ∧ But b W w') (w : World) :
    Calls Tryz.prog 82 #[.string ⟨l.toArray⟩, .func (.func F) #[] #[]] w fun e w' => e = .returned (.tuple #[.agg #[.int .i64 0, .int .i64 0], .int .i64 2]) ∧ Below w.heap.size w w' := by
  have hmf : ∀ (fn : Fn) (first cap : Array Value) (w : World), (Instr.makeFunc fn first cap).run Tryz.prog w = .ok (.func fn first cap) w := fun _ _ _ _ => rfl
  have HH := Lib.hid H
  have HL : Hid (∀ W, Calls Tryz.prog 97 #[.agg #[.int .i64 m, .int .i64 (s : Int)]] W fun e w' => e = .returned (.agg #[.int .i64 x, .int .i64 (y : Int)]) ∧ Below W.heap.size W w') := by
    intro W
    have := Tryz.Least_any m s hm0 hm1 hs W
    rwa [hl] at this
  have HR := Lib.hid hr
  clear H hr hl
  subst hr0
  go_enter_defers Tryz.func82, Tryz.ntmps82
  go_wp2_with (refine (HH.out (w.heap.size + 1 + 1) _ (boxed_at (by simp))).mono ?_; rintro e w1 ⟨rfl, hb, hk⟩; have st := take_cells hk hb; clear hk hb)
  go_wp2_with (go_at_call 97; refine (HL.out _).mono ?_; rintro e w2 ⟨rfl, hg⟩; have st2 := st.grown hg; clear st hg; obtain ⟨c0, c1, c2, f0, f1, f2, hb, hB⟩ := id st2)
  have st3 := st2.put x (y : Int)
  clear c0 c1 c2 f0 f1 f2 hb hB st2
  generalize World.setCell (World.setCell w2 _ _) _ _ = W3 at st3 ⊢
  obtain ⟨c0, c1, c2, f0, f1, f2, hb, hB⟩ := st3
  go_wp2_with (first | (go_at_call 98; refine (Tryz.end_none _ _ hb.cell).mono ?_; rintro e w3 ⟨rfl, rfl⟩) | (go_at_call 99; refine (Tryz.fits_no HR.out _).mono ?_; rintro e w' ⟨rfl, rfl⟩))
  refine leaves_cons (f := 96) (args := #[.pointer (some ⟨w.heap.size, 0, none⟩), .pointer (some ⟨w.heap.size + 1, 0, none⟩)]) (by simp) (by simp [go_sem]) ?_
  refine (Tryz.catch_panic w.heap.size (w.heap.size + 1) (by omega) _ 2 [] _ _ _ c0 c1 c2 f0 f1 f2).mono ?_
  rintro e u' w'' ⟨rfl, rfl, rfl⟩
  refine ⟨.tuple #[.agg #[.int .i64 0, .int .i64 0], .int .i64 2], by simp [results, Tryz.results82, go_sem, c0, c1, c2], rfl, ?_⟩
  exact (((hB.setCell (by simp) _).setCell (by simp) _).setCell (by simp) _).drew

set_option maxHeartbeats 800000 in
theorem Tryz.take_ok (F : FuncId) (hF : ∀ args W, (callFunc F args).run Tryz.prog W = .ok (.enter F args) W) (l : List UInt8) (m : Int) (s : Nat) (r : List UInt8) (x : Int) (y : Nat) (hl : least s m = (x, y)) (hm0 : -9223372036854775807 ≤ m) (hm1 : m ≤ 9223372036854775807) (hs : s ≤ 6) (hr : fitB x = true) (hr0 : r = [])
    (H : ∀ (b : Nat) (W : World), Boxed W b 133 (.string ⟨l.toArray⟩) → Calls Tryz.prog F #[.pointer (some ⟨b, 0, none⟩)] W fun e w' => e = .returned (.agg #[.int .i64 m, .int .i64 (s : Int)]) ∧ Boxed w' b 133 (.string ⟨r.toArray⟩) ∧ But b W w') (w : World) :
    Calls Tryz.prog 82 #[.string ⟨l.toArray⟩, .func (.func F) #[] #[]] w fun e w' => e = .returned (.tuple #[.agg #[.int .i64 x, .int .i64 (y : Int)], .int .i64 0]) ∧ Below w.heap.size w w' := by
  have hmf : ∀ (fn : Fn) (first cap : Array Value) (w : World), (Instr.makeFunc fn first cap).run Tryz.prog w = .ok (.func fn first cap) w := fun _ _ _ _ => rfl
  have HH := Lib.hid H
  have HL : Hid (∀ W, Calls Tryz.prog 97 #[.agg #[.int .i64 m, .int .i64 (s : Int)]] W fun e w' => e = .returned (.agg #[.int .i64 x, .int .i64 (y : Int)]) ∧ Below W.heap.size W w') := by
    intro W
    have := Tryz.Least_any m s hm0 hm1 hs W
    rwa [hl] at this
  have HR := Lib.hid hr
  clear H hr hl
  subst hr0
  go_enter_defers Tryz.func82, Tryz.ntmps82
  go_wp2_with (refine (HH.out (w.heap.size + 1 + 1) _ (boxed_at (by simp))).mono ?_; rintro e w1 ⟨rfl, hb, hk⟩; have st := take_cells hk hb; clear hk hb)
  go_wp2_with (go_at_call 97; refine (HL.out _).mono ?_; rintro e w2 ⟨rfl, hg⟩; have st2 := st.grown hg; clear st hg; obtain ⟨c0, c1, c2, f0, f1, f2, hb, hB⟩ := id st2)
  have st3 := st2.put x (y : Int)
  clear c0 c1 c2 f0 f1 f2 hb hB st2
  generalize World.setCell (World.setCell w2 _ _) _ _ = W3 at st3 ⊢
  obtain ⟨c0, c1, c2, f0, f1, f2, hb, hB⟩ := st3
  go_wp2_with (first | (go_at_call 98; refine (Tryz.end_none _ _ hb.cell).mono ?_; rintro e w3 ⟨rfl, rfl⟩) | (go_at_call 99; refine (Tryz.fits_yes HR.out _).mono ?_; rintro e w' ⟨rfl, rfl⟩))
  refine leaves_cons (f := 96) (args := #[.pointer (some ⟨w.heap.size, 0, none⟩), .pointer (some ⟨w.heap.size + 1, 0, none⟩)]) (by simp) (by simp [go_sem]) ?_
  refine (Tryz.catch_idle ⟨w.heap.size, 0, none⟩ ⟨w.heap.size + 1, 0, none⟩ _).mono ?_
  rintro e u' w'' ⟨rfl, rfl, rfl⟩
  refine ⟨.tuple #[.agg #[.int .i64 x, .int .i64 (y : Int)], .int .i64 0], by simp [results, Tryz.results82, go_sem, c0, c1, c2], rfl, ?_⟩
  exact ((hB.setCell (by simp) _).setCell (by simp) _).setCell (by simp) _

/-- The text's number, its least form, or the error: what take tells. -/
theorem Tryz.take_any (F : FuncId) (hF : ∀ args W, (callFunc F args).run Tryz.prog W = .ok (.enter F args) W) (l : List UInt8) (o : Option (Int × Nat × List UInt8))
    (ho : ∀ m s r, o = some (m, s, r) → -9223372036854775807 ≤ m ∧ m ≤ 9223372036854775807 ∧ s ≤ 6)
    (H : ∀ (b : Nat) (W : World), Boxed W b 133 (.string ⟨l.toArray⟩) → Calls Tryz.prog F #[.pointer (some ⟨b, 0, none⟩)] W fun e w' => NumPost b o W e w') (w : World) :
    Calls Tryz.prog 82 #[.string ⟨l.toArray⟩, .func (.func F) #[] #[]] w fun e w' => e = .returned (.tuple #[.agg #[.int .i64 (takeN o).1, .int .i64 ((takeN o).2.1 : Int)], .int .i64 (takeN o).2.2]) ∧ Below w.heap.size w w' := by
  match o, H, ho with
  | none, H, _ => exact Tryz.take_none F hF l H w
  | some (m, s, r), H, ho =>
    obtain ⟨h0, h1, h2⟩ := ho m s r rfl
    by_cases hr : r = []
    · by_cases hf : fitB (least s m).1 = true
      · have hT : takeN (some (m, s, r)) = ((least s m).1, (least s m).2, 0) := by simp only [takeN]; rw [if_pos hr, if_pos hf]
        rw [hT]
        exact Tryz.take_ok F hF l m s r _ _ rfl h0 h1 h2 hf hr H w
      · have hT : takeN (some (m, s, r)) = (0, 0, 2) := by simp only [takeN]; rw [if_pos hr, if_neg hf]
        rw [hT]
        exact Tryz.take_full F hF l m s r _ _ rfl h0 h1 h2 hf hr H w
    · have hT : takeN (some (m, s, r)) = (0, 0, 20) := by simp only [takeN]; rw [if_neg hr]
      rw [hT]
      exact Tryz.take_rest F hF l m s r _ _ rfl h0 h1 h2 hr H w
theorem sgn_bd (l : List UInt8) {v B : Int} (h0 : 0 ≤ v) (h1 : v ≤ B) : -B ≤ sgn l * v ∧ sgn l * v ≤ B := by
  rcases sgn_cases l with h | h <;> rw [h] <;> omega
theorem numI_bd (l : List UInt8) : ∀ m s r, numI l = some (m, s, r) → -9223372036854775807 ≤ m ∧ m ≤ 9223372036854775807 ∧ s ≤ 6 := by
  intro m s r h
  unfold numI at h
  split at h
  · rename_i hd
    cases h
    have hv := digs_val (tailIf 45 l) (m := 0) (a := 0) (k := 12) (by omega) (by decide) (by omega)
    have := sgn_bd l hv.1 (B := 1000000000000) (by have := hv.2; simp at this; omega)
    omega
  · cases h
theorem numR_bd (l : List UInt8) : ∀ m s r, numR l = some (m, s, r) → -9223372036854775807 ≤ m ∧ m ≤ 9223372036854775807 ∧ s ≤ 6 := by
  intro m s r h
  unfold numR numT at h
  split at h
  · rename_i hd
    have hv := digs_val (tailIf 45 l) (m := 0) (a := 0) (k := 12) (by omega) (by decide) (by omega)
    split at h
    · split at h
      · rename_i hq
        cases h
        have hv2 := digs_val ((tailIf 45 l).drop (digs (tailIf 45 l)).length).tail (m := valF 0 (digs (tailIf 45 l))) (a := 12) (k := 18) hv.1 hv.2 (by omega)
        have := sgn_bd l hv2.1 (B := 1000000000000000000) (by have := hv2.2; simp at this; omega)
        omega
      · cases h
    · cases h
      have := sgn_bd l hv.1 (B := 1000000000000) (by have := hv.2; simp at this; omega)
      omega
  · cases h

/-- What Int and Read tell of a text. -/
def intN (l : List UInt8) : Int × Nat × Int := takeN (numI l)
def readN (l : List UInt8) : Int × Nat × Int := takeN (numR l)

set_option maxHeartbeats 400000 in
theorem Tryz.Int_any (l : List UInt8) (hl : l.length ≤ 9223372036854775807) (w : World) :
    Calls Tryz.prog 72 #[.string ⟨l.toArray⟩] w fun e w' => e = .returned (.tuple #[.int .i64 (intN l).1, .int .i64 (intN l).2.2]) ∧ Below w.heap.size w w' := by
  have HT : Hid (∀ W, Calls Tryz.prog 82 #[.string ⟨l.toArray⟩, .func (.func 83) #[] #[]] W fun e w' => e = .returned (.tuple #[.agg #[.int .i64 (intN l).1, .int .i64 ((intN l).2.1 : Int)], .int .i64 (intN l).2.2]) ∧ Below W.heap.size W w') :=
    fun W => Tryz.take_any 83 (fun _ _ => by kernel_rfl) l (numI l) (numI_bd l) (fun b W h => Tryz.Int1_any h hl) W
  generalize intN l = x at HT ⊢
  go_enter Tryz.func72, Tryz.ntmps72
  go_wp2_with (go_at_call 82; refine (HT.out _).mono ?_; rintro e w1 ⟨rfl, hb⟩)
  go_ret2
  exact ⟨rfl, hb.alloc hb.size _⟩

#print axioms Tryz.Int_any
end Go.Proofs
/- The text of a number, as a list of bytes. No program. -/
namespace Go.Fx
/-- The text of a divided by 10 to the s. -/
def printA (a s : Nat) : List UInt8 := Lib.decDigits (a / 10 ^ s) ++ (if s = 0 then [] else 46 :: (Lib.decDigits (10 ^ s + a % 10 ^ s)).drop 1)
def printN (m : Int) (s : Nat) : List UInt8 := (if m < 0 then [45] else []) ++ printA m.natAbs s
end Go.Fx
namespace Go.Proofs
open Go.RowKit Go.Fx Go.Sort
theorem div_wrap (a t : Nat) (ha : a ≤ 1000000000000) : wrap64 ((a : Int) / (t : Int)) = ((a / t : Nat) : Int) := by
  have h1 : ((a : Int) / (t : Int)) = ((a / t : Nat) : Int) := (Int.natCast_ediv a t).symm
  rw [h1]
  have h2 : a / t ≤ a := Nat.div_le_self a t
  generalize a / t = q at h2 ⊢
  unfold wrap64
  omega
theorem cat (x y : List UInt8) : (⟨x.toArray⟩ : ByteArray) ++ ⟨y.toArray⟩ = ⟨(x ++ y).toArray⟩ := by
  apply ByteArray.ext
  simp
theorem cat_tail (P D E : List UInt8) (n : Nat) (hn : E.length = n) : (⟨P.toArray⟩ : ByteArray) ++ ⟨D.toArray⟩ ++ ⟨#[46]⟩ ++ (⟨E.toArray⟩ : ByteArray).extract 1 n = ⟨(P ++ (D ++ 46 :: E.drop 1)).toArray⟩ := by
  subst hn
  apply ByteArray.ext
  apply Array.ext'
  simp [List.take_of_length_le]
theorem dec_len (n : Nat) (hn : n ≤ 9223372036854775807) : 1 ≤ (Lib.decDigits n).length ∧ (Lib.decDigits n).length ≤ 21 := by
  have h := Lib.itoa_length_le (n : Int) (by omega) (by omega)
  rw [Lib.itoa_nonneg] at h
  refine ⟨?_, h⟩
  rw [Lib.decDigits_length]
  unfold Lib.nDigits
  split <;> omega
end Go.Proofs
/- fixed.Print. Conditions: a number of which something is promised; the table of powers of ten holds what the card lays. -/
namespace Go.Proofs
open Go.RowKit Go.Fx Go.Sort
attribute [local go_sem] Oper.semAt_some

/-- The table of powers of ten holds what the card lays. -/
def FxTab (w : World) : Prop := Lib.TabIs Tryz.prog w "internal/strconv.uint64pow10" .u64 Lib.pow10Tab
theorem FxTab.below {w w' : World} (h : FxTab w) (hb : Below w.heap.size w w') : FxTab w' := by
  unfold FxTab Lib.TabIs World.var? at h ⊢
  cases hg : Tryz.prog.globalNamed "internal/strconv.uint64pow10" with
  | none => rw [hg] at h; cases h
  | some g =>
    rw [hg] at h
    simp only [Option.bind_some] at h ⊢
    have hlt : g < w.heap.size := by
      rcases Nat.lt_or_ge g w.heap.size with h' | h'
      · exact h'
      · rw [Array.getElem?_eq_none h'] at h; cases h
    rw [hb.block g hlt]
    exact h
theorem fxbelow_grow (w : World) (n : Nat) (os : Array Obj) : Below w.heap.size w (grow (w.drewN n) os) :=
  ⟨rfl, rfl, rfl, by simp [grow], fun k hk => by simp only [grow]; rw [Array.getElem?_append_left (by simpa using hk)]; simp⟩
theorem Tryz.itoa_nat (n : Nat) (hn : n ≤ 9223372036854775807) (w : World) (ht : FxTab w) :
    Calls Tryz.prog 20 #[.int .i64 (n : Int)] w fun e w' => e = .returned (.string ⟨(Lib.decDigits n).toArray⟩) ∧ Below w.heap.size w w' := by
  refine (Tryz.strconv_Itoa n (by omega) (by omega) w ht).mono fun e w' ⟨he, k, os, hw⟩ => ?_
  subst hw
  rw [Lib.itoa_nonneg] at he
  exact ⟨he, fxbelow_grow w k os⟩

/-- A text of this function, at a number whose parts are known. -/
def Txt (n : Int) (D : List UInt8) : Prop := ∀ W, FxTab W → Calls Tryz.prog 20 #[.int .i64 n] W fun e w' => e = .returned (.string ⟨D.toArray⟩) ∧ Below W.heap.size W w'


end Go.Proofs
/- Plain facts on roots of whole numbers, rounded; no program. Guesses at a root from above, the last of which is the root rounded down; quotients of roots by what they are compared with. -/
namespace Go.Root

/-- q is the root of n, rounded down. -/
def IsRoot (q n : Nat) : Prop := q * q ≤ n ∧ n < (q + 1) * (q + 1)

theorem sq_le {a b : Nat} (h : a ≤ b) : a * a ≤ b * b := Nat.mul_le_mul h h
theorem sq_lt {a b : Nat} (h : a < b) : a * a < b * b := Nat.mul_self_lt_mul_self h
theorem le_of_sq {a b : Nat} (h : a * a ≤ b * b) : a ≤ b := Nat.mul_self_le_mul_self_iff.1 h
theorem lt_of_sq {a b : Nat} (h : a * a < b * b) : a < b := Nat.mul_self_lt_mul_self_iff.1 h

theorem IsRoot.le_iff {q n : Nat} (h : IsRoot q n) (a : Nat) : a ≤ q ↔ a * a ≤ n :=
  ⟨fun g => Nat.le_trans (sq_le g) h.1, fun g => by have := lt_of_sq (Nat.lt_of_le_of_lt g h.2); omega⟩
theorem IsRoot.unique {q r n : Nat} (h : IsRoot q n) (k : IsRoot r n) : q = r :=
  Nat.le_antisymm ((k.le_iff q).2 h.1) ((h.le_iff r).2 k.1)

/-- The guesses from g on; f: how many more there may be. -/
def guessed (n : Nat) : Nat → Nat → List Nat
  | 0, _ => []
  | f + 1, g => g :: if n / g < g then guessed n f ((g + n / g) / 2) else []
/-- The first guess, and all of them. -/
def first (n : Nat) : Nat := 2 ^ ((Lib.bitLen n + 1) / 2)
def guesses (n : Nat) : List Nat := if n = 0 then [] else guessed n (first n) (first n)
/-- The root, rounded down. -/
def rt (n : Nat) : Nat := (guesses n).getLast?.getD 0

theorem half_lt {n g : Nat} (h : n / g < g) : (g + n / g) / 2 < g := by omega
theorem half_ge {n g r : Nat} (hr : r * r ≤ n) (hg : 0 < g) : r ≤ (g + n / g) / 2 := by
  rcases Nat.lt_or_ge g (2 * r) with h | h
  · have h1 : g * (2 * r - g) ≤ n := by
      refine Nat.le_trans ?_ hr
      obtain ⟨k, hk⟩ : ∃ k, 2 * r = g + k := ⟨2 * r - g, by omega⟩
      rw [hk, Nat.add_sub_cancel_left]
      have h2 : (g + k) * (g + k) = 4 * (r * r) := by rw [← hk, Nat.mul_mul_mul_comm]
      have h3 : 4 * (g * k) ≤ (g + k) * (g + k) := by
        rcases Nat.le_total g k with h4 | h4
        · obtain ⟨c, rfl⟩ := Nat.exists_eq_add_of_le h4
          have e1 : 4 * (g * (g + c)) = 4 * (g * g) + 4 * (g * c) := by rw [Nat.mul_add, Nat.mul_add]
          have e2 : (g + (g + c)) * (g + (g + c)) = 4 * (g * g) + 4 * (g * c) + c * c := by
            simp only [Nat.mul_add, Nat.add_mul, Nat.mul_comm c g]; omega
          omega
        · obtain ⟨c, rfl⟩ := Nat.exists_eq_add_of_le h4
          have e1 : 4 * ((k + c) * k) = 4 * (k * k) + 4 * (k * c) := by rw [Nat.add_mul, Nat.mul_add, Nat.mul_comm c k]
          have e2 : (k + c + k) * (k + c + k) = 4 * (k * k) + 4 * (k * c) + c * c := by
            simp only [Nat.mul_add, Nat.add_mul, Nat.mul_comm c k]; omega
          omega
      omega
    have h2 : 2 * r - g ≤ n / g := (Nat.le_div_iff_mul_le hg).2 (by rw [Nat.mul_comm]; exact h1)
    omega
  · generalize n / g = q
    omega
theorem stop_eq {n g r : Nat} (hr : IsRoot r n) (hg : 0 < g) (hge : r ≤ g) (h : ¬ n / g < g) : g = r := by
  have h1 : g ≤ n / g := by omega
  have h2 := (Nat.le_div_iff_mul_le hg).1 h1
  exact Nat.le_antisymm ((hr.le_iff g).2 h2) hge
theorem root_pos {r n : Nat} (h : IsRoot r n) (hn : 0 < n) : 0 < r := (h.le_iff 1).2 (by omega)

theorem guessed_ne {n f g : Nat} (hf : 0 < f) : guessed n f g ≠ [] := by
  obtain ⟨f, rfl⟩ : ∃ k, f = k + 1 := ⟨f - 1, by omega⟩
  simp [guessed]
theorem guessed_last {r n : Nat} (hr : IsRoot r n) (hn : 0 < n) : ∀ (f g : Nat), r ≤ g → g ≤ f → (guessed n f g).getLast? = some r := by
  intro f
  induction f with
  | zero => intro g h1 h2; have := root_pos hr hn; omega
  | succ f ih =>
    intro g h1 h2
    have hg : 0 < g := Nat.lt_of_lt_of_le (root_pos hr hn) h1
    simp only [guessed]
    by_cases h : n / g < g
    · have h3 := half_ge (n := n) (g := g) hr.1 hg
      have h4 := half_lt h
      have h5 := ih _ h3 (by omega)
      have h6 : guessed n f ((g + n / g) / 2) ≠ [] := guessed_ne (by have := root_pos hr hn; omega)
      rw [if_pos h, List.getLast?_cons]
      simp [h5]
    · rw [if_neg h, stop_eq hr hg h1 h]; rfl

theorem bitLen_above {n : Nat} (h0 : 0 < n) (h : n < 2 ^ 64) : n < 2 ^ Lib.bitLen n := (Lib.bitLenAux_bounds 64 n h (by omega)).2.2
theorem bitLen_most {n : Nat} (h : n ≤ 9223372036854775807) : Lib.bitLen n ≤ 63 := Lib.bitLen_le n 63 (by omega) (by omega)
theorem first_pos (n : Nat) : 0 < first n := Nat.two_pow_pos _
theorem first_le {n : Nat} (h : n ≤ 9223372036854775807) : first n ≤ 4294967296 := by
  have := bitLen_most h
  exact Nat.le_trans (Nat.pow_le_pow_right (by omega) (show (Lib.bitLen n + 1) / 2 ≤ 32 by omega)) (by decide)
theorem first_above {n : Nat} (h0 : 0 < n) (h : n < 2 ^ 64) : n < first n * first n := by
  refine Nat.lt_of_lt_of_le (bitLen_above h0 h) ?_
  rw [first, ← Nat.pow_add]
  exact Nat.pow_le_pow_right (by omega) (by omega)

theorem root_exists (n : Nat) : ∃ r, IsRoot r n := by
  induction n with
  | zero => exact ⟨0, by simp [IsRoot]⟩
  | succ n ih =>
    obtain ⟨r, h1, h2⟩ := ih
    by_cases h : n + 1 < (r + 1) * (r + 1)
    · exact ⟨r, by omega, h⟩
    · exact ⟨r + 1, by omega, Nat.lt_of_lt_of_le (show n + 1 < (r + 1) * (r + 1) + 1 by omega) (by have := sq_lt (show r + 1 < r + 1 + 1 by omega); omega)⟩
theorem rt_is {n : Nat} (h : n ≤ 9223372036854775807) : IsRoot (rt n) n := by
  obtain ⟨r, hr⟩ := root_exists n
  by_cases h0 : n = 0
  · subst h0; simp [rt, guesses, IsRoot]
  · have h1 : r ≤ first n := Nat.le_of_lt (lt_of_sq (Nat.lt_of_le_of_lt hr.1 (first_above (by omega) (by omega))))
    have := guessed_last hr (by omega) _ _ h1 (Nat.le_refl _)
    simpa [rt, guesses, h0, this] using hr

theorem rt_eq {n q : Nat} (h : n ≤ 9223372036854775807) (k : IsRoot q n) : rt n = q := (rt_is h).unique k
theorem le_rt {n : Nat} (h : n ≤ 9223372036854775807) (a : Nat) : a ≤ rt n ↔ a * a ≤ n := (rt_is h).le_iff a
theorem rt_lt {n : Nat} (h : n ≤ 9223372036854775807) (a : Nat) : rt n < a ↔ n < a * a := by
  have := le_rt h a; omega
theorem rt_most {n : Nat} (h : n ≤ 9223372036854775807) : rt n ≤ 3037000499 := by
  have := (rt_lt h 3037000500).2 (by omega); omega

/-- What the three quotients are. -/
def near (n d : Nat) : Nat := (rt (4 * n) / d + 1) / 2
def down (n m d : Nat) : Nat := rt (m * m * n) / d
def upto (a b : Nat) : Nat := (a + b - 1) / b
def ceiling (n : Nat) : Nat := if rt n * rt n < n then rt n + 1 else rt n
def ceil (n k d : Nat) : Nat := upto (ceiling (upto n k)) d

theorem upto_le {a b : Nat} (hb : 0 < b) (q : Nat) : upto a b ≤ q ↔ a ≤ q * b := by
  unfold upto
  rw [← Nat.lt_succ_iff, Nat.div_lt_iff_lt_mul hb, Nat.succ_mul]
  omega
theorem ceiling_le {n : Nat} (h : n ≤ 9223372036854775807) (q : Nat) : ceiling n ≤ q ↔ n ≤ q * q := by
  have h1 := rt_is h
  unfold ceiling
  have h2 := le_rt h (q + 1)
  have h3 := rt_lt h q
  have h4 := rt_lt h (q + 1)
  split
  · rename_i hlt
    constructor
    · intro g
      by_cases e : rt n + 1 = q
      · rw [← e]; exact Nat.le_of_lt h1.2
      · exact Nat.le_of_lt (h3.1 (by omega))
    · intro g
      have : ¬ q ≤ rt n := fun e => by have := sq_le e; omega
      omega
  · rename_i hge
    have he : n = rt n * rt n := by have := h1.1; omega
    constructor
    · intro g; rw [he]; exact sq_le g
    · intro g; rw [he] at g; exact le_of_sq g
theorem ceiling_most {n : Nat} (h : n ≤ 9000000000000000000) : ceiling n ≤ 3000000000 := (ceiling_le (by omega) _).2 (by omega)
theorem upto_most {a b c : Nat} (hb : 0 < b) (h : a ≤ c) : upto a b ≤ c := (upto_le hb c).2 (Nat.le_trans h (Nat.le_mul_of_pos_right c hb))

theorem le_near {n d : Nat} (hd : 0 < d) (h : 4 * n ≤ 9223372036854775807) (q : Nat) : q + 1 ≤ near n d ↔ (2 * q + 1) * d * ((2 * q + 1) * d) ≤ 4 * n := by
  rw [← le_rt h, ← Nat.le_div_iff_mul_le hd]
  unfold near
  omega
theorem le_down {n m d : Nat} (hd : 0 < d) (h : m * m * n ≤ 9223372036854775807) (q : Nat) : q ≤ down n m d ↔ q * d * (q * d) ≤ m * m * n := by
  rw [← le_rt h, ← Nat.le_div_iff_mul_le hd]
  rfl
theorem ceil_le {n k d : Nat} (hk : 0 < k) (hd : 0 < d) (h : n ≤ 9223372036854775807) (q : Nat) : ceil n k d ≤ q ↔ n ≤ k * (q * d * (q * d)) := by
  unfold ceil
  rw [upto_le hd, ceiling_le (upto_most hk h), upto_le hk, Nat.mul_comm]
#print axioms ceil_le
end Go.Root
/- More plain facts on roots and their quotients; no program: what they are at most, how they stand to each other, what is equal by what it is compared with, what rises. -/
namespace Go.Root
theorem rt_small {n : Nat} (h : n ≤ 80000000000000000) : rt n ≤ 282842713 := by
  have := (rt_lt (n := n) (by omega) 282842714).2 (by omega); omega
theorem down_le_near {n d : Nat} (hn : n ≤ 80000000000000000) (hd : 1 ≤ d) : down n 1 d ≤ near n d := by
  obtain h | ⟨q, h⟩ : down n 1 d = 0 ∨ ∃ q, down n 1 d = q + 1 := by
    cases hq : down n 1 d with
    | zero => exact .inl rfl
    | succ q => exact .inr ⟨q, rfl⟩
  · omega
  · rw [h, le_near hd (by omega)]
    have h1 := (le_down (n := n) (m := 1) hd (by omega) (q + 1)).1 (by omega)
    have h2 : (2 * q + 1) * d ≤ 2 * ((q + 1) * d) := by rw [← Nat.mul_assoc]; exact Nat.mul_le_mul_right d (by omega)
    have h3 := sq_le h2
    have h4 : 2 * ((q + 1) * d) * (2 * ((q + 1) * d)) = 4 * ((q + 1) * d * ((q + 1) * d)) := by rw [Nat.mul_mul_mul_comm]
    omega
theorem near_le_ceil {n d : Nat} (hn : n ≤ 80000000000000000) (hd : 1 ≤ d) : near n d ≤ ceil n 1 d := by
  obtain h | ⟨q, h⟩ : near n d = 0 ∨ ∃ q, near n d = q + 1 := by
    cases hq : near n d with
    | zero => exact .inl rfl
    | succ q => exact .inr ⟨q, rfl⟩
  · omega
  · have h1 := (le_near (n := n) hd (by omega) q).1 (by omega)
    have h2 : ¬ ceil n 1 d ≤ q := by
      rw [ceil_le (by omega) hd (by omega)]
      intro h3
      have h4 : 2 * (q * d) * (2 * (q * d)) = 4 * (q * d * (q * d)) := by rw [Nat.mul_mul_mul_comm]
      have h5 := le_of_sq (show (2 * q + 1) * d * ((2 * q + 1) * d) ≤ 2 * (q * d) * (2 * (q * d)) by omega)
      have h6 : (2 * q + 1) * d = 2 * (q * d) + d := by rw [Nat.add_mul, Nat.mul_assoc, Nat.one_mul]
      omega
    omega
theorem ceil_le_down {n d : Nat} (hn : n ≤ 80000000000000000) (hd : 1 ≤ d) : ceil n 1 d ≤ down n 1 d + 1 := by
  rw [ceil_le (by omega) hd (by omega)]
  have h1 := le_down (m := 1) hd (by omega) (down n 1 d + 1) (n := n)
  omega
theorem near_small {n d : Nat} (hn : n ≤ 80000000000000000) : near n d ≤ 600000000 := by
  have h1 : rt (4 * n) ≤ 565685425 := by
    have := (rt_lt (n := 4 * n) (by omega) 565685426).2 (by omega)
    omega
  have := Nat.div_le_self (rt (4 * n)) d
  unfold near
  omega
theorem down_small {n m d : Nat} (hn : m * m * n ≤ 8000000000000000000) : down n m d ≤ 3000000000 := by
  have h1 : rt (m * m * n) ≤ 2828427125 := by
    have := (rt_lt (n := m * m * n) (by omega) 2828427126).2 (by omega)
    omega
  have := Nat.div_le_self (rt (m * m * n)) d
  unfold down
  omega
theorem ceil_small {n k d : Nat} (hn : n ≤ 80000000000000000) (hk : 1 ≤ k) (hd : 1 ≤ d) : ceil n k d ≤ 300000000 := by
  rw [ceil_le hk hd (by omega)]
  have h1 : 300000000 * 1 ≤ 300000000 * d := Nat.mul_le_mul_left _ hd
  have h2 := sq_le h1
  have h3 := Nat.le_mul_of_pos_left (300000000 * d * (300000000 * d)) hk
  omega
theorem eq_of_le {a b : Nat} (h : ∀ q, q ≤ a ↔ q ≤ b) : a = b := Nat.le_antisymm ((h a).1 (Nat.le_refl _)) ((h b).2 (Nat.le_refl _))
theorem eq_of_next {a b : Nat} (h : ∀ q, q + 1 ≤ a ↔ q + 1 ≤ b) : a = b := eq_of_le fun q => by
  cases q with
  | zero => simp
  | succ q => exact h q
theorem eq_of_ge {a b : Nat} (h : ∀ q, a ≤ q ↔ b ≤ q) : a = b := Nat.le_antisymm ((h b).2 (Nat.le_refl _)) ((h a).1 (Nat.le_refl _))
theorem sq_le_iff {a b : Nat} : a * a ≤ b * b ↔ a ≤ b := ⟨le_of_sq, sq_le⟩
theorem sq_times (k x : Nat) : k * x * (k * x) = k * k * (x * x) := Nat.mul_mul_mul_comm k x k x

/-! Ten times as much. -/
theorem near_tens {n t : Nat} (hn : n ≤ 800000000000000) (ht : 1 ≤ t) : near (100 * n) (10 * t) = near n t := by
  refine eq_of_next fun q => ?_
  rw [le_near (by omega) (by omega), le_near ht (by omega), show (2 * q + 1) * (10 * t) = 10 * ((2 * q + 1) * t) from Nat.mul_left_comm _ _ _, sq_times]
  omega
theorem down_tens {n t : Nat} (hn : n ≤ 800000000000000) (ht : 1 ≤ t) : down (100 * n) 10 (10 * t) = down n 10 t := by
  refine eq_of_le fun q => ?_
  rw [le_down (by omega) (by omega), le_down ht (by omega), show q * (10 * t) = 10 * (q * t) from Nat.mul_left_comm _ _ _, sq_times]
  omega
theorem ceil_tens {n t : Nat} (hn : n ≤ 800000000000000) (ht : 1 ≤ t) : ceil (100 * n) 10 (10 * t) = ceil n 10 t := by
  refine eq_of_ge fun q => ?_
  rw [ceil_le (by omega) (by omega) (by omega), ceil_le (by omega) ht (by omega), show q * (10 * t) = 10 * (q * t) from Nat.mul_left_comm _ _ _, sq_times]
  omega
theorem down_tenth {n t : Nat} (hn : n ≤ 800000000000000) (ht : 1 ≤ t) : down n 10 (10 * t) = down n 1 t := by
  refine eq_of_le fun q => ?_
  rw [le_down (by omega) (by omega), le_down ht (by omega), show q * (10 * t) = 10 * (q * t) from Nat.mul_left_comm _ _ _, sq_times]
  omega

/-! Squares. -/
theorem rt_sq {a : Nat} (h : a * a ≤ 9223372036854775807) : rt (a * a) = a := by
  refine eq_of_le fun q => ?_
  rw [le_rt h]; exact sq_le_iff
theorem near_sq {a t : Nat} (h : a * t * (a * t) ≤ 2000000000000000000) (ht : 1 ≤ t) : near (a * t * (a * t)) t = a := by
  refine eq_of_next fun q => ?_
  rw [le_near ht (by omega), show 4 * (a * t * (a * t)) = 2 * (a * t) * (2 * (a * t)) from (sq_times 2 _).symm, sq_le_iff, ← Nat.mul_assoc, Nat.mul_le_mul_right_iff (by omega)]
  omega
theorem down_sq {a m t : Nat} (h : m * m * (a * t * (a * t)) ≤ 9223372036854775807) (ht : 1 ≤ t) : down (a * t * (a * t)) m t = m * a := by
  refine eq_of_le fun q => ?_
  rw [le_down ht h, ← sq_times, sq_le_iff, ← Nat.mul_assoc, Nat.mul_le_mul_right_iff (by omega)]
theorem ceil_sq {a t : Nat} (h : a * t * (a * t) ≤ 9223372036854775807) (ht : 1 ≤ t) : ceil (a * t * (a * t)) 1 t = a := by
  refine eq_of_ge fun q => ?_
  rw [ceil_le (by omega) ht h, Nat.one_mul, sq_le_iff, Nat.mul_le_mul_right_iff (by omega)]

/-! What rises. -/
theorem rt_mono {x y : Nat} (h : x ≤ y) (hy : y ≤ 9223372036854775807) : rt x ≤ rt y := by
  rw [le_rt hy]; exact Nat.le_trans (rt_is (by omega)).1 h
theorem near_mono {x y d : Nat} (h : x ≤ y) (hy : y ≤ 80000000000000000) : near x d ≤ near y d := by
  have := Nat.div_le_div_right (c := d) (rt_mono (x := 4 * x) (y := 4 * y) (by omega) (by omega))
  unfold near; omega
theorem down_mono {x y m d : Nat} (h : x ≤ y) (hy : m * m * y ≤ 9223372036854775807) : down x m d ≤ down y m d :=
  Nat.div_le_div_right (rt_mono (Nat.mul_le_mul_left _ h) hy)
theorem ceil_mono {x y k d : Nat} (h : x ≤ y) (hy : y ≤ 80000000000000000) (hk : 1 ≤ k) (hd : 1 ≤ d) : ceil x k d ≤ ceil y k d := by
  rw [ceil_le hk hd (by omega)]
  exact Nat.le_trans h ((ceil_le hk hd (by omega) _).1 (Nat.le_refl _))
theorem near_falls {n s t : Nat} (h : s ≤ t) (hs : 1 ≤ s) : near n t ≤ near n s := by
  have := Nat.div_le_div_left (a := rt (4 * n)) h hs
  unfold near; omega
theorem ceil_falls {n k s t : Nat} (h : s ≤ t) (hs : 1 ≤ s) (hk : 1 ≤ k) (hn : n ≤ 80000000000000000) : ceil n k t ≤ ceil n k s := by
  rw [ceil_le hk (by omega) (by omega)]
  exact Nat.le_trans ((ceil_le hk hs (by omega) _).1 (Nat.le_refl _)) (Nat.mul_le_mul_left _ (sq_le (Nat.mul_le_mul_left _ h)))
end Go.Root
/- Plain facts on distances, rounded; no program. x and y are the sides without their signs, t is ten to the scale. -/
namespace Go.Metric
open Go.Root

/-- The nearest whole number to a quotient. -/
def nst (n t : Nat) : Nat := (2 * n + t) / (2 * t)
/-- The distance of a kind. -/
def dist (kind t x y : Nat) : Nat :=
  if kind = 1 then near (x * x + y * y) t
  else if kind = 2 then ceil (x * x + y * y) 1 t
  else if kind = 3 then nst (x + y) t
  else if kind = 4 then max (nst x t) (nst y t)
  else if kind = 5 then ceil (x * x + y * y) 10 t
  else down (x * x + y * y) 10 t

theorem sum_most {x y : Nat} (hx : x ≤ 200000000) (hy : y ≤ 200000000) : x * x + y * y ≤ 80000000000000000 := by
  have h1 : x * x ≤ 40000000000000000 := sq_le hx
  have h2 : y * y ≤ 40000000000000000 := sq_le hy
  omega
theorem le_nst {n t : Nat} (ht : 1 ≤ t) (q : Nat) : q + 1 ≤ nst n t ↔ (2 * q + 1) * t ≤ 2 * n := by
  unfold nst
  rw [Nat.le_div_iff_mul_le (by omega)]
  have h1 : (q + 1) * (2 * t) = (2 * q + 1) * t + t := by rw [← Nat.mul_assoc, Nat.add_mul (2 * q) 1 t, Nat.one_mul, Nat.mul_comm (q + 1) 2, Nat.mul_add, Nat.mul_one, Nat.add_mul]; omega
  omega
theorem nst_near {x t : Nat} (ht : 1 ≤ t) (h : 4 * (x * x) ≤ 9223372036854775807) : nst x t = near (x * x) t := by
  refine eq_of_next fun q => ?_
  rw [le_nst ht, le_near ht h, show 4 * (x * x) = 2 * x * (2 * x) from (sq_times 2 x).symm, sq_le_iff]
theorem nst_one (n : Nat) : nst n 1 = n := by unfold nst; omega
theorem nst_zero {t : Nat} (ht : 1 ≤ t) : nst 0 t = 0 := by unfold nst; rw [Nat.mul_zero, Nat.zero_add]; exact Nat.div_eq_of_lt (by omega)
theorem nst_most {n t : Nat} (ht : 1 ≤ t) : nst n t ≤ n := by
  cases hq : nst n t with
  | zero => omega
  | succ q =>
    have h1 := (le_nst ht q).1 (by rw [hq]; exact Nat.le_refl _)
    have h2 : (2 * q + 1) * 1 ≤ (2 * q + 1) * t := Nat.mul_le_mul_left _ ht
    omega
theorem nst_tens {n t : Nat} (ht : 1 ≤ t) : nst (10 * n) (10 * t) = nst n t := by
  refine eq_of_next fun q => ?_
  rw [le_nst (by omega), le_nst ht, show (2 * q + 1) * (10 * t) = 10 * ((2 * q + 1) * t) from Nat.mul_left_comm _ _ _]
  omega
theorem near_zero {t : Nat} (ht : 1 ≤ t) : near 0 t = 0 := by
  have h := le_near (n := 0) ht (by omega) 0
  simp only [Nat.mul_zero, Nat.zero_add, Nat.one_mul] at h
  have h2 : 1 * 1 ≤ t * t := sq_le ht
  omega
theorem down_zero {m t : Nat} (ht : 1 ≤ t) : down 0 m t = 0 := by
  have h := le_down (n := 0) (m := m) ht (by simp) 1
  simp only [Nat.mul_zero, Nat.one_mul] at h
  have h2 : 1 * 1 ≤ t * t := sq_le ht
  omega
theorem ceil_tens' {n k t : Nat} (hn : n ≤ 800000000000000) (hk : 1 ≤ k) (ht : 1 ≤ t) : ceil (100 * n) k (10 * t) = ceil n k t := by
  refine eq_of_ge fun q => ?_
  rw [ceil_le hk (by omega) (by omega), ceil_le hk ht (by omega), show q * (10 * t) = 10 * (q * t) from Nat.mul_left_comm _ _ _, sq_times, ← Nat.mul_assoc, Nat.mul_comm k (10 * 10), Nat.mul_assoc]
  generalize k * (q * t * (q * t)) = X
  omega
theorem ceil_none {k t : Nat} (hk : 1 ≤ k) (ht : 1 ≤ t) : ceil 0 k t = 0 := by
  have := (ceil_le (n := 0) hk ht (by omega) 0).2 (by omega); omega

theorem dist_swap (kind t x y : Nat) : dist kind t y x = dist kind t x y := by
  unfold dist; rw [Nat.add_comm (y * y), Nat.add_comm y x, Nat.max_comm]
theorem dist_zero (kind : Nat) {t : Nat} (ht : 1 ≤ t) : dist kind t 0 0 = 0 := by
  unfold dist
  simp only [Nat.mul_zero, Nat.add_zero, near_zero ht, ceil_none (k := 1) (by omega) ht, nst_zero ht, ceil_none (k := 10) (by omega) ht, down_zero ht]
  simp
theorem dist_pos {kind x y : Nat} (hx : x ≤ 200000000) (hy : y ≤ 200000000) (h : x ≠ 0 ∨ y ≠ 0) : 1 ≤ dist kind 1 x y := by
  have hs := sum_most hx hy
  have h1 : 1 ≤ x * x + y * y := by
    rcases h with h | h
    · have : 1 * 1 ≤ x * x := sq_le (show 1 ≤ x by omega); omega
    · have : 1 * 1 ≤ y * y := sq_le (show 1 ≤ y by omega); omega
  unfold dist
  generalize x * x + y * y = n at hs h1
  have c1 := ceil_le (k := 1) (n := n) (by omega) (Nat.le_refl 1) (by omega) 0
  have c2 := ceil_le (k := 10) (n := n) (by omega) (Nat.le_refl 1) (by omega) 0
  have c3 := le_near (n := n) (Nat.le_refl 1) (by omega) 0
  have c4 := le_down (n := n) (m := 10) (Nat.le_refl 1) (by omega) 1
  simp only [Nat.mul_zero, Nat.zero_add, Nat.mul_one] at c1 c2 c3 c4
  simp only [nst_one]
  split
  · omega
  split
  · omega
  split
  · omega
  split
  · omega
  split <;> omega
theorem dist_tens {kind t x y : Nat} (hx : x ≤ 20000000) (hy : y ≤ 20000000) (ht : 1 ≤ t) : dist kind (10 * t) (10 * x) (10 * y) = dist kind t x y := by
  have h1 : x * x ≤ 400000000000000 := sq_le hx
  have h2 : y * y ≤ 400000000000000 := sq_le hy
  have e : 10 * x * (10 * x) + 10 * y * (10 * y) = 100 * (x * x + y * y) := by rw [sq_times, sq_times]; omega
  have hs : x * x + y * y ≤ 800000000000000 := by omega
  unfold dist
  rw [e, ← Nat.mul_add, nst_tens ht, nst_tens ht, nst_tens ht]
  generalize x * x + y * y = n at hs
  rw [near_tens hs ht, ceil_tens' hs (Nat.le_refl 1) ht, ceil_tens' hs (by omega) ht, down_tens hs ht]
theorem dist_most {kind t x y : Nat} (hx : x ≤ 200000000) (hy : y ≤ 200000000) (ht : 1 ≤ t) : dist kind t x y ≤ 3000000000 := by
  have hs := sum_most hx hy
  have n1 := nst_most (n := x + y) ht
  have n2 := nst_most (n := x) ht
  have n3 := nst_most (n := y) ht
  unfold dist
  generalize x * x + y * y = n at hs
  have c1 := near_small (d := t) hs
  have c2 := ceil_small (k := 1) hs (by omega) ht
  have c3 := ceil_small (k := 10) hs (by omega) ht
  have c4 := down_small (n := n) (m := 10) (d := t) (by omega)
  split
  · omega
  split
  · omega
  split
  · omega
  split
  · omega
  split <;> omega

/-! How the kinds stand to each other. -/
theorem most_le_straight {t x y : Nat} (hx : x ≤ 200000000) (hy : y ≤ 200000000) (ht : 1 ≤ t) : max (nst x t) (nst y t) ≤ near (x * x + y * y) t := by
  have hs := sum_most hx hy
  have h1 : x * x ≤ 40000000000000000 := sq_le hx
  have h2 : y * y ≤ 40000000000000000 := sq_le hy
  rw [nst_near ht (by omega), nst_near ht (by omega)]
  exact Nat.max_le.2 ⟨near_mono (Nat.le_add_right _ _) hs, near_mono (Nat.le_add_left _ _) hs⟩
theorem straight_le_sides {t x y : Nat} (hx : x ≤ 200000000) (hy : y ≤ 200000000) (ht : 1 ≤ t) : near (x * x + y * y) t ≤ nst (x + y) t := by
  obtain h | ⟨q, h⟩ : near (x * x + y * y) t = 0 ∨ ∃ q, near (x * x + y * y) t = q + 1 := by
    cases hq : near (x * x + y * y) t with
    | zero => exact .inl rfl
    | succ q => exact .inr ⟨q, rfl⟩
  · omega
  · have hs := sum_most hx hy
    rw [h, le_nst ht]
    have h1 := (le_near (n := x * x + y * y) ht (by omega) q).1 (by omega)
    refine le_of_sq (Nat.le_trans h1 ?_)
    rw [sq_times]
    have h2 : (x + y) * (x + y) = x * x + y * y + 2 * (x * y) := by simp only [Nat.mul_add, Nat.add_mul, Nat.mul_comm y x]; omega
    omega
theorem att_le {n t : Nat} (hn : n ≤ 80000000000000000) (ht : 1 ≤ t) : ceil n 10 t ≤ ceil n 1 t := by
  rw [ceil_le (by omega) ht (by omega)]
  have := (ceil_le (k := 1) (by omega) ht (show n ≤ 9223372036854775807 by omega) _).1 (Nat.le_refl (ceil n 1 t))
  omega
theorem tenth_ge {n t : Nat} (hn : n ≤ 80000000000000000) (ht : 1 ≤ t) : 10 * near n t ≤ down n 10 t + 5 := by
  obtain h | ⟨q, h⟩ : near n t = 0 ∨ ∃ q, near n t = q + 1 := by
    cases hq : near n t with
    | zero => exact .inl rfl
    | succ q => exact .inr ⟨q, rfl⟩
  · omega
  · have h1 := (le_near (n := n) ht (by omega) q).1 (by omega)
    have h2 := (le_down (n := n) (m := 10) ht (by omega) (5 * (2 * q + 1))).2 (by rw [show 5 * (2 * q + 1) * t = 5 * ((2 * q + 1) * t) from Nat.mul_assoc _ _ _, sq_times]; omega)
    omega
theorem tenth_le {n t : Nat} (hn : n ≤ 80000000000000000) (ht : 1 ≤ t) : down n 10 t ≤ 10 * near n t + 4 := by
  have h1 := le_near (n := n) ht (by omega) (near n t)
  have h2 := le_down (n := n) (m := 10) ht (by omega) (5 * (2 * near n t + 1))
  rw [show 5 * (2 * near n t + 1) * t = 5 * ((2 * near n t + 1) * t) from Nat.mul_assoc _ _ _, sq_times] at h2
  omega

/-! The way through a third point. -/
theorem sq_nonneg (x : Int) : 0 ≤ x * x := by rw [← Int.natAbs_mul_self]; exact Int.natCast_nonneg _
theorem sq_abs (x : Int) : ((x.natAbs * x.natAbs : Nat) : Int) = x * x := Int.natAbs_mul_self
theorem le_of_square {x c : Int} (hc : 0 ≤ c) (h : x * x ≤ c * c) : x ≤ c := by
  refine Int.not_lt.1 fun k => ?_
  have h1 : c * c ≤ c * x := Int.mul_le_mul_of_nonneg_left (by omega) hc
  have h2 : c * x < x * x := Int.mul_lt_mul_of_pos_right k (by omega)
  omega
theorem mul4_comm (a b c d : Int) : a * b * (c * d) = a * c * (b * d) := by rw [Int.mul_assoc, Int.mul_left_comm b c d, ← Int.mul_assoc]
theorem cross_sq (a b c d : Int) : (a * c + b * d) * (a * c + b * d) ≤ (a * a + b * b) * (c * c + d * d) := by
  have h : 0 ≤ (a * d - b * c) * (a * d - b * c) := sq_nonneg _
  have e1 : a * a * (c * c) = a * c * (a * c) := mul4_comm a a c c
  have e2 : a * a * (d * d) = a * d * (a * d) := mul4_comm a a d d
  have e3 : b * b * (c * c) = b * c * (b * c) := mul4_comm b b c c
  have e4 : b * b * (d * d) = b * d * (b * d) := mul4_comm b b d d
  have e5 : a * c * (b * d) = a * d * (b * c) := by rw [mul4_comm a c b d, mul4_comm a d b c, Int.mul_comm d c]
  simp only [Int.add_mul, Int.mul_add, Int.sub_mul, Int.mul_sub] at h ⊢
  rw [e1, e2, e3, e4]
  have e6 : b * d * (a * c) = a * c * (b * d) := Int.mul_comm _ _
  have e7 : b * c * (a * d) = a * d * (b * c) := Int.mul_comm _ _
  omega
theorem through {ax ay bx b_y : Int} {k A B : Int} (hk : 0 ≤ k) (hA : 0 ≤ A) (hB : 0 ≤ B) (ha : ax * ax + ay * ay ≤ k * (A * A)) (hb : bx * bx + b_y * b_y ≤ k * (B * B)) :
    (ax + bx) * (ax + bx) + (ay + b_y) * (ay + b_y) ≤ k * ((A + B) * (A + B)) := by
  have h1 := cross_sq ax ay bx b_y
  have hn : 0 ≤ bx * bx + b_y * b_y := by have := sq_nonneg bx; have := sq_nonneg b_y; omega
  have h2 : (ax * ax + ay * ay) * (bx * bx + b_y * b_y) ≤ k * (A * A) * (k * (B * B)) :=
    Int.le_trans (Int.mul_le_mul_of_nonneg_right ha hn) (Int.mul_le_mul_of_nonneg_left hb (Int.mul_nonneg hk (sq_nonneg A)))
  have e1 : k * (A * A) * (k * (B * B)) = k * (A * B) * (k * (A * B)) := by
    rw [mul4_comm, mul4_comm k (A * B), mul4_comm A A B B]
  have h3 : ax * bx + ay * b_y ≤ k * (A * B) := le_of_square (Int.mul_nonneg hk (Int.mul_nonneg hA hB)) (by rw [← e1]; exact Int.le_trans h1 h2)
  have e2 : (ax + bx) * (ax + bx) = ax * ax + bx * bx + 2 * (ax * bx) := by simp only [Int.add_mul, Int.mul_add, Int.mul_comm bx ax]; omega
  have e3 : (ay + b_y) * (ay + b_y) = ay * ay + b_y * b_y + 2 * (ay * b_y) := by simp only [Int.add_mul, Int.mul_add, Int.mul_comm b_y ay]; omega
  have e4 : k * ((A + B) * (A + B)) = k * (A * A) + k * (B * B) + 2 * (k * (A * B)) := by
    simp only [Int.add_mul, Int.mul_add, Int.mul_comm B A]; omega
  omega
theorem ceil_through {ax ay bx b_y : Int} {k t : Nat} (hk : 1 ≤ k) (ht : 1 ≤ t)
    (ha : ax.natAbs * ax.natAbs + ay.natAbs * ay.natAbs ≤ 80000000000000000) (hb : bx.natAbs * bx.natAbs + b_y.natAbs * b_y.natAbs ≤ 80000000000000000)
    (hc : (ax + bx).natAbs * (ax + bx).natAbs + (ay + b_y).natAbs * (ay + b_y).natAbs ≤ 80000000000000000) :
    ceil ((ax + bx).natAbs * (ax + bx).natAbs + (ay + b_y).natAbs * (ay + b_y).natAbs) k t ≤
      ceil (ax.natAbs * ax.natAbs + ay.natAbs * ay.natAbs) k t + ceil (bx.natAbs * bx.natAbs + b_y.natAbs * b_y.natAbs) k t := by
  have h1 := (ceil_le hk ht (show ax.natAbs * ax.natAbs + ay.natAbs * ay.natAbs ≤ 9223372036854775807 by omega) _).1 (Nat.le_refl _)
  have h2 := (ceil_le hk ht (show bx.natAbs * bx.natAbs + b_y.natAbs * b_y.natAbs ≤ 9223372036854775807 by omega) _).1 (Nat.le_refl _)
  rw [ceil_le hk ht (by omega), Nat.add_mul]
  generalize ceil (ax.natAbs * ax.natAbs + ay.natAbs * ay.natAbs) k t * t = A at h1
  generalize ceil (bx.natAbs * bx.natAbs + b_y.natAbs * b_y.natAbs) k t * t = B at h2
  have g1 := Int.ofNat_le.2 h1
  have g2 := Int.ofNat_le.2 h2
  rw [Int.natCast_add, sq_abs, sq_abs] at g1 g2
  have := through (k := (k : Int)) (A := (A : Int)) (B := (B : Int)) (by omega) (by omega) (by omega) (by simpa using g1) (by simpa using g2)
  refine Int.ofNat_le.1 ?_
  rw [Int.natCast_add, sq_abs, sq_abs]
  simpa using this
theorem sides_through (ax ay bx b_y : Int) : nst ((ax + bx).natAbs + (ay + b_y).natAbs) 1 ≤ nst (ax.natAbs + ay.natAbs) 1 + nst (bx.natAbs + b_y.natAbs) 1 := by
  simp only [nst_one]; omega
theorem most_through (ax ay bx b_y : Int) : max (nst (ax + bx).natAbs 1) (nst (ay + b_y).natAbs 1) ≤ max (nst ax.natAbs 1) (nst ay.natAbs 1) + max (nst bx.natAbs 1) (nst b_y.natAbs 1) := by
  simp only [nst_one]; omega
#print axioms ceil_through
end Go.Metric
/- The small functions of package metric, and those of the document's own answers: Known, fits, size, power, nearest; far. Conditions: where a number is doubled, that it has room. -/
namespace Go.Metric
def knownB (k : Int) : Bool := decide (0 ≤ k) && decide (k ≤ 6)
def fitsB (n : Int) : Bool := decide (-200000000 ≤ n) && decide (n ≤ 200000000)
theorem fitsB_true {n : Int} (h : fitsB n = true) : -200000000 ≤ n ∧ n ≤ 200000000 := by simpa [fitsB] using h
theorem fitsB_abs {n : Int} (h : fitsB n = true) : n.natAbs ≤ 200000000 := by have := fitsB_true h; omega
theorem fitsB_of {n : Int} (h1 : -200000000 ≤ n) (h2 : n ≤ 200000000) : fitsB n = true := by simp [fitsB, h1, h2]
theorem knownB_true {k : Int} (h : knownB k = true) : 0 ≤ k ∧ k ≤ 6 := by simpa [knownB] using h
end Go.Metric
namespace Go.Proofs
open Go.RowKit Go.Shelf Go.Root Go.Metric
attribute [local go_sem] Oper.semAt_some

theorem ret_is {a b : Bool} (h : a = b) : Ending.returned (.bool a) = .returned (.bool b) := by rw [h]
theorem mret_num {a b : Int} (h : a = b) : Ending.returned (.int .i64 a) = .returned (.int .i64 b) := by rw [h]

end Go.Proofs
/- An array of texts that is a package-level variable: from what a row lists to its cells; no program. -/
namespace Go.TextTab
open Go Go.Lib

def textData {H : Type} (zs : List (List UInt8)) : DataW H := .agg (zs.map fun z => .lit (.string z))
/-- The variable holds just these texts. -/
def TextsAre (P : Program) (w : World) (name : String) (zs : List (List UInt8)) : Prop := w.var? P name = some (zs.map fun z => Value.string ⟨z.toArray⟩).toArray

theorem cells_of_texts {H : Type} {enc : TypeId × Value → H} {P : Program} {w : World} {base : Nat} {sp : Nat → Bool} {held : Bool} {fuel : Nat} {t e : TypeId} {n : Nat} {cs : List Value} {zs : List (List UInt8)} {p : List MemPlace}
    (ht : P.underlying t = some (.array n e)) (he : P.underlying e = some .string) (hce : P.cellsOf e = 1) (hct : P.cellsOf t = n)
    (h : DataW.trod enc P w base sp held fuel t cs = some (textData zs, p)) : cs = zs.map fun z => Value.string ⟨z.toArray⟩ := by
  cases fuel with
  | zero => simp [DataW.trod] at h
  | succ fuel =>
    simp only [DataW.trod, ht, hce, hct, Nat.mul_one] at h
    split at h
    · rename_i hl
      obtain ⟨xs, hm, hx⟩ := Option.map_eq_some_iff.1 h
      have hxs : xs.map (·.1) = zs.map fun z => (DataW.lit (.string z) : DataW H) := by
        have := congrArg Prod.fst hx
        simpa [textData] using this
      have hxl : xs.length = n := by simpa using mapM_length hm
      have hzl : zs.length = n := by
        have := congrArg List.length hxs
        simp at this
        omega
      apply List.ext_getElem?
      intro i
      by_cases hi : i < n
      · obtain ⟨b, hb, hf⟩ := mapM_at hm i i (by simp [hi])
        obtain ⟨s, hc, rfl, _⟩ := DataW.trod_string he hf
        have h1 : cs[i]? = some (.string s) := by
          have := congrArg (·[0]?) hc
          simpa [List.getElem?_take, List.getElem?_drop] using this
        have h2 : (xs.map (·.1))[i]? = some (DataW.lit (.string s.data.toList) : DataW H) := by simp [hb]
        rw [hxs] at h2
        simp only [List.getElem?_map, Option.map_eq_some_iff, DataW.lit.injEq, Lit.string.injEq] at h2
        obtain ⟨z', hz', rfl⟩ := h2
        simp [h1, hz']
      · rw [List.getElem?_eq_none (by omega), List.getElem?_eq_none (by simp; omega)]
    · cases h

/-- From a row's condition: the array stands first on the list. -/
theorem textsAre_of_head {P : Program} {W : World} {name : String} {zs : List (List UInt8)} {rest : List (String × DataW Unit)} {g : Nat} {t e : TypeId} {n : Nat}
    (hg : P.globalNamed name = some g) (hty : (P.globals[g]?).map (·.type) = some t) (ht : P.underlying t = some (.array n e)) (he : P.underlying e = some .string) (hce : P.cellsOf e = 1) (hct : P.cellsOf t = n)
    (h : laidMet P ((name, textData zs) :: rest) W) : TextsAre P W name zs := by
  obtain ⟨ps, ⟨g', t', cs, fuel, p, q, hg', ht', hvar, hd, _, _⟩, _⟩ := h
  obtain rfl := Option.some.inj (hg.symm.trans hg')
  obtain rfl := Option.some.inj (hty.symm.trans ht')
  unfold TextsAre
  rw [hvar, ← cells_of_texts ht he hce hct hd]

theorem TextsAre.cell {P : Program} {W : World} {name : String} {zs : List (List UInt8)} {g : Nat} (h : TextsAre P W name zs) (hg : P.globalNamed name = some g) {i : Nat} {z : List UInt8} (hi : zs[i]? = some z) :
    W.cell? ⟨g, i, none⟩ = some (.string ⟨z.toArray⟩) := by
  have := var?_cell hg h i
  simpa [hi] using this
theorem TextsAre.same {P : Program} {w w' : World} {name : String} {zs : List (List UInt8)} (h : TextsAre P w name zs) (hs : ∀ g, g < w.heap.size → w'.heap[g]? = w.heap[g]?) : TextsAre P w' name zs := by
  unfold TextsAre World.var? at h ⊢
  cases hg : P.globalNamed name with
  | none => rw [hg] at h; cases h
  | some g =>
    rw [hg] at h
    simp only [Option.bind_some] at h ⊢
    have hlt : g < w.heap.size := by
      rcases Nat.lt_or_ge g w.heap.size with h' | h'
      · exact h'
      · rw [Array.getElem?_eq_none h'] at h; cases h
    rw [hs g hlt]
    exact h
#print axioms textsAre_of_head
#print axioms TextsAre.same
end Go.TextTab
/- metric.Keyword and metric.Of of this program, and the document's own. Conditions: the array of keywords holds what the card lays. -/
namespace Go.Metric
/-- The keywords. -/
def kws : List (List UInt8) := [[69, 88, 80, 76, 73, 67, 73, 84], [69, 85, 67, 95, 50, 68], [67, 69, 73, 76, 95, 50, 68], [77, 65, 78, 95, 50, 68], [77, 65, 88, 95, 50, 68], [65, 84, 84]]
def kw0 : ByteArray := ⟨#[69, 88, 80, 76, 73, 67, 73, 84]⟩
def kw1 : ByteArray := ⟨#[69, 85, 67, 95, 50, 68]⟩
def kw2 : ByteArray := ⟨#[67, 69, 73, 76, 95, 50, 68]⟩
def kw3 : ByteArray := ⟨#[77, 65, 78, 95, 50, 68]⟩
def kw4 : ByteArray := ⟨#[77, 65, 88, 95, 50, 68]⟩
def kw5 : ByteArray := ⟨#[65, 84, 84]⟩
/-- The keyword of a metric. -/
def kwS (k : Int) : ByteArray := if k = 0 then kw0 else if k = 1 then kw1 else if k = 2 then kw2 else if k = 3 then kw3 else if k = 4 then kw4 else if k = 5 then kw5 else ⟨#[]⟩
end Go.Metric
namespace Go.Proofs
open Go.RowKit Go.Shelf Go.Root Go.Metric Go.TextTab
attribute [local go_sem] Oper.semAt_some

/-- The array of keywords holds what the card lays. -/
def KeyTab (w : World) : Prop := TextsAre Tryz.prog w "entrepot/metric.keywords" kws
theorem KeyTab.below {w w' : World} (h : KeyTab w) (hb : Below w.heap.size w w') : KeyTab w' := TextsAre.same h fun g hg => hb.block g hg
theorem keyTab_named : Tryz.prog.globalNamed "entrepot/metric.keywords" = some 0 := by kernel_rfl
structure KeyCells (w : World) : Prop where
  c0 : w.cell? ⟨0, 0, none⟩ = some (.string ⟨#[69, 88, 80, 76, 73, 67, 73, 84]⟩)
  c1 : w.cell? ⟨0, 1, none⟩ = some (.string ⟨#[69, 85, 67, 95, 50, 68]⟩)
  c2 : w.cell? ⟨0, 2, none⟩ = some (.string ⟨#[67, 69, 73, 76, 95, 50, 68]⟩)
  c3 : w.cell? ⟨0, 3, none⟩ = some (.string ⟨#[77, 65, 78, 95, 50, 68]⟩)
  c4 : w.cell? ⟨0, 4, none⟩ = some (.string ⟨#[77, 65, 88, 95, 50, 68]⟩)
  c5 : w.cell? ⟨0, 5, none⟩ = some (.string ⟨#[65, 84, 84]⟩)
theorem KeyTab.cells {w : World} (h : KeyTab w) : KeyCells w :=
  ⟨TextsAre.cell h keyTab_named rfl, TextsAre.cell h keyTab_named rfl, TextsAre.cell h keyTab_named rfl, TextsAre.cell h keyTab_named rfl, TextsAre.cell h keyTab_named rfl, TextsAre.cell h keyTab_named rfl⟩

theorem Tryz.Keyword_calls (k : Int) (w : World) (hT : KeyTab w) :
    Calls Tryz.prog 21 #[.int .i64 k] w fun e w' => e = .returned (.string (kwS k)) ∧ w' = w := by
  obtain ⟨c0, c1, c2, c3, c4, c5⟩ := hT.cells
  by_cases hk : 0 ≤ k ∧ k ≤ 5
  · rcases (show k = 0 ∨ k = 1 ∨ k = 2 ∨ k = 3 ∨ k = 4 ∨ k = 5 by omega) with rfl | rfl | rfl | rfl | rfl | rfl
    all_goals
      go_enter Tryz.func21, Tryz.ntmps21
      go_wp2
      go_ret
      exact ⟨rfl, rfl⟩
  · have hR : kwS k = ⟨#[]⟩ := by unfold kwS; rw [if_neg (by omega), if_neg (by omega), if_neg (by omega), if_neg (by omega), if_neg (by omega), if_neg (by omega)]
    rw [hR]
    by_cases h1 : k < 0
    · have d1 : decide (k < 0) = true := decide_eq_true h1
      go_enter Tryz.func21, Tryz.ntmps21
      go_wp2
      go_ret
      exact ⟨rfl, rfl⟩
    · have d1 : decide (k < 0) = false := decide_eq_false h1
      have h2 : 6 ≤ k := by omega
      have d2 : decide (6 ≤ k) = true := decide_eq_true h2
      go_enter Tryz.func21, Tryz.ntmps21
      go_wp2
      go_ret
      exact ⟨rfl, rfl⟩
theorem Tryz.RKeyword_calls (k : Int) (w : World) :
    Calls Tryz.prog 59 #[.int .i64 k] w fun e w' => e = .returned (.string (kwS k)) ∧ w' = w := by
  by_cases hk : 0 ≤ k ∧ k ≤ 5
  · rcases (show k = 0 ∨ k = 1 ∨ k = 2 ∨ k = 3 ∨ k = 4 ∨ k = 5 by omega) with rfl | rfl | rfl | rfl | rfl | rfl
    all_goals
      go_enter Tryz.func59, Tryz.ntmps59
      go_wp2
      go_ret
      exact ⟨rfl, rfl⟩
  · have hR : kwS k = ⟨#[]⟩ := by unfold kwS; rw [if_neg (by omega), if_neg (by omega), if_neg (by omega), if_neg (by omega), if_neg (by omega), if_neg (by omega)]
    rw [hR]
    have d0 : (k == 0) = false := beq_eq_false_iff_ne.2 (by omega)
    have d1 : (k == 1) = false := beq_eq_false_iff_ne.2 (by omega)
    have d2 : (k == 2) = false := beq_eq_false_iff_ne.2 (by omega)
    have d3 : (k == 3) = false := beq_eq_false_iff_ne.2 (by omega)
    have d4 : (k == 4) = false := beq_eq_false_iff_ne.2 (by omega)
    have d5 : (k == 5) = false := beq_eq_false_iff_ne.2 (by omega)
    go_enter Tryz.func59, Tryz.ntmps59
    go_wp2
    go_ret
    exact ⟨rfl, rfl⟩

theorem text_beq {l : List UInt8} {s : ByteArray} (h : ¬ (⟨l.toArray⟩ : ByteArray) = s) : (l == s.toList) = false := by
  rw [beq_eq_false_iff_ne, Lib.toList_data]
  intro e
  apply h
  subst e
  cases s
  simp
/-- The keyword at a place, as a text. -/
def kwAt : Nat → ByteArray
  | 0 => kw0
  | 1 => kw1
  | 2 => kw2
  | 3 => kw3
  | 4 => kw4
  | _ => kw5
/-- The metric that has a keyword, sought from a place on, the number of places left. -/
def ofFrom (s : ByteArray) : Nat → Nat → Int × Bool
  | _, 0 => (0, false)
  | j, n + 1 => if kwAt j = s then ((j : Int), true) else ofFrom s (j + 1) n
def ofR (s : ByteArray) : Int × Bool := ofFrom s 0 6

theorem ret_of {a : Int} {b : Bool} {x : Int × Bool} (h : x = (a, b)) : Ending.returned (.tuple #[.int .i64 a, .bool b]) = .returned (.tuple #[.int .i64 x.1, .bool x.2]) := by rw [h]

set_option maxRecDepth 100000 in
set_option maxHeartbeats 1000000 in
theorem Tryz.Of_calls (s : ByteArray) (w : World) (hT : KeyTab w) :
    Calls Tryz.prog 55 #[.string s] w fun e w' => e = .returned (.tuple #[.int .i64 (ofR s).1, .bool (ofR s).2]) ∧ w' = w := by
  obtain ⟨c0, c1, c2, c3, c4, c5⟩ := hT.cells
  clear hT
  have i0 : ∀ w, (Instr.index 76 (.agg #[.string ⟨#[69, 88, 80, 76, 73, 67, 73, 84]⟩, .string ⟨#[69, 85, 67, 95, 50, 68]⟩, .string ⟨#[67, 69, 73, 76, 95, 50, 68]⟩, .string ⟨#[77, 65, 78, 95, 50, 68]⟩, .string ⟨#[77, 65, 88, 95, 50, 68]⟩, .string ⟨#[65, 84, 84]⟩]) (.int .i64 0)).run Tryz.prog w = .ok (.string ⟨#[69, 88, 80, 76, 73, 67, 73, 84]⟩) w := fun _ => by kernel_rfl
  have i1 : ∀ w, (Instr.index 76 (.agg #[.string ⟨#[69, 88, 80, 76, 73, 67, 73, 84]⟩, .string ⟨#[69, 85, 67, 95, 50, 68]⟩, .string ⟨#[67, 69, 73, 76, 95, 50, 68]⟩, .string ⟨#[77, 65, 78, 95, 50, 68]⟩, .string ⟨#[77, 65, 88, 95, 50, 68]⟩, .string ⟨#[65, 84, 84]⟩]) (.int .i64 1)).run Tryz.prog w = .ok (.string ⟨#[69, 85, 67, 95, 50, 68]⟩) w := fun _ => by kernel_rfl
  have i2 : ∀ w, (Instr.index 76 (.agg #[.string ⟨#[69, 88, 80, 76, 73, 67, 73, 84]⟩, .string ⟨#[69, 85, 67, 95, 50, 68]⟩, .string ⟨#[67, 69, 73, 76, 95, 50, 68]⟩, .string ⟨#[77, 65, 78, 95, 50, 68]⟩, .string ⟨#[77, 65, 88, 95, 50, 68]⟩, .string ⟨#[65, 84, 84]⟩]) (.int .i64 2)).run Tryz.prog w = .ok (.string ⟨#[67, 69, 73, 76, 95, 50, 68]⟩) w := fun _ => by kernel_rfl
  have i3 : ∀ w, (Instr.index 76 (.agg #[.string ⟨#[69, 88, 80, 76, 73, 67, 73, 84]⟩, .string ⟨#[69, 85, 67, 95, 50, 68]⟩, .string ⟨#[67, 69, 73, 76, 95, 50, 68]⟩, .string ⟨#[77, 65, 78, 95, 50, 68]⟩, .string ⟨#[77, 65, 88, 95, 50, 68]⟩, .string ⟨#[65, 84, 84]⟩]) (.int .i64 3)).run Tryz.prog w = .ok (.string ⟨#[77, 65, 78, 95, 50, 68]⟩) w := fun _ => by kernel_rfl
  have i4 : ∀ w, (Instr.index 76 (.agg #[.string ⟨#[69, 88, 80, 76, 73, 67, 73, 84]⟩, .string ⟨#[69, 85, 67, 95, 50, 68]⟩, .string ⟨#[67, 69, 73, 76, 95, 50, 68]⟩, .string ⟨#[77, 65, 78, 95, 50, 68]⟩, .string ⟨#[77, 65, 88, 95, 50, 68]⟩, .string ⟨#[65, 84, 84]⟩]) (.int .i64 4)).run Tryz.prog w = .ok (.string ⟨#[77, 65, 88, 95, 50, 68]⟩) w := fun _ => by kernel_rfl
  have i5 : ∀ w, (Instr.index 76 (.agg #[.string ⟨#[69, 88, 80, 76, 73, 67, 73, 84]⟩, .string ⟨#[69, 85, 67, 95, 50, 68]⟩, .string ⟨#[67, 69, 73, 76, 95, 50, 68]⟩, .string ⟨#[77, 65, 78, 95, 50, 68]⟩, .string ⟨#[77, 65, 88, 95, 50, 68]⟩, .string ⟨#[65, 84, 84]⟩]) (.int .i64 5)).run Tryz.prog w = .ok (.string ⟨#[65, 84, 84]⟩) w := fun _ => by kernel_rfl
  go_enter Tryz.func55, Tryz.ntmps55
  go_wp2
  clear c0 c1 c2 c3 c4 c5
  go_loop [7] (fun i => ∃ j : Nat, j ≤ 6 ∧ i = .int .i64 (j : Int) ∧ Hid (ofR s = ofFrom s j (6 - j))) (fun i => 6 - (intOf i).toNat)
  case atStart => exact ⟨0, Nat.zero_le _, rfl, rfl⟩
  case round =>
    obtain ⟨j, hj, rfl, hH⟩ := hrel
    by_cases hlt : j < 6
    · obtain ⟨m, hm⟩ : ∃ m, 6 - j = m + 1 := ⟨5 - j, by omega⟩
      have hH2 := hH.out
      rw [hm] at hH2
      simp only [ofFrom] at hH2
      clear hH
      have hm2 : 6 - (j + 1) = m := by omega
      rcases (show j = 0 ∨ j = 1 ∨ j = 2 ∨ j = 3 ∨ j = 4 ∨ j = 5 by omega) with rfl | rfl | rfl | rfl | rfl | rfl
      all_goals
        simp only [kwAt, kw0, kw1, kw2, kw3, kw4, kw5] at hH2
        split at hH2
        · rename_i he
          subst he
          have HH := Lib.hid hH2
          clear hH2 hm hm2
          go_wp2
          go_ret2
          exact ⟨ret_of HH.out, rfl⟩
        · rename_i he
          have hne := text_beq he
          have HH := Lib.hid hH2
          have Hm := Lib.hid hm2
          clear hH2 hm hm2
          go_wp2
          go_round
          case rel =>
            have e := HH.out
            rw [← Hm.out] at e
            first | exact ⟨1, by omega, by go_num, Lib.hid e⟩ | exact ⟨2, by omega, by go_num, Lib.hid e⟩ | exact ⟨3, by omega, by go_num, Lib.hid e⟩ | exact ⟨4, by omega, by go_num, Lib.hid e⟩ | exact ⟨5, by omega, by go_num, Lib.hid e⟩ | exact ⟨6, by omega, by go_num, Lib.hid e⟩
          case measure => simp [intOf]
    · obtain rfl : j = 6 := by omega
      go_wp2
      go_ret2
      exact ⟨ret_of hH.out, rfl⟩
end Go.Proofs
