/- What is printed is read back; the law FixedBack, as a contract. Conditions: the table of powers of ten holds what the card lays. -/
import Derived.Test.YtiedogcekalfjaaG09
import Derived.Test.YtiedogcekalfjaaG08
import Derived.RowKit
import Derived.Test.YtiedogcekalfjaaProg
import Derived.WalkKit
import Derived.Lib.Hide
import Derived.Deep.DrawnRows
import Derived.Deep.RegionHeld3
import Derived.Deep.QuietTactic
import Derived.BigQuiet
import Derived.RangeFuncRecord
import Derived.Test.YtiedogcekalfjaaShelf
import Derived.Lib.LaidTab
import Derived.Lib.ItoaLen
import Derived.Laws.IdiomStrings
import Derived.Deep.LoopGhost
import Derived.Test.YtiedogcekalfjaaG04
import Derived.Test.YtiedogcekalfjaaG07
import Derived.Test.YtiedogcekalfjaaG05
namespace Go.Fx
open Go.Proofs
theorem print_zero (m : Int) : printN m 0 = (if m < 0 then [45] else []) ++ Lib.decDigits m.natAbs := by
  unfold printN printA
  simp
theorem print_places (m : Int) (s : Nat) (h : s ≠ 0) : printN m s = (if m < 0 then [45] else []) ++ (Lib.decDigits (m.natAbs / 10 ^ s) ++ 46 :: plac m.natAbs s) := by
  unfold printN printA plac
  rw [if_neg h]
theorem div_short {a s : Nat} (ha : a ≤ 1000000000000) (hs : 1 ≤ s) : (Lib.decDigits (a / 10 ^ s)).length ≤ 12 := by
  apply dec_short (by omega)
  have h1 : 10 ^ 1 ≤ 10 ^ s := Nat.pow_le_pow_right (by omega) hs
  have h2 : a / 10 ^ s ≤ a / 10 ^ 1 := Nat.div_le_div_left h1 (by omega)
  omega
theorem back_places (m : Int) (s : Nat) (hs1 : 1 ≤ s) (hs : s ≤ 6) (ha : m.natAbs ≤ 1000000000000) : readN (printN m s) = chkL (least s m) ∧ intN (printN m s) = (0, 0, 20) := by
  obtain ⟨p1, p2, p3⟩ := plac_spec m.natAbs s
  have hh := dec_head (m.natAbs / 10 ^ s) (46 :: plac m.natAbs s)
  rw [print_places m s (by omega)]
  constructor
  · unfold readN
    rw [numR_text m _ _ (dec_all _) (dec_ne _) (div_short ha hs1) p2 (by omega) (by omega) hh, p1, p3, dec_val, takeN_end, p10_nat]
    congr 2
    conv => rhs; rw [← sgn_abs m]
    congr 1
    have := Nat.div_add_mod m.natAbs (10 ^ s)
    rw [Nat.mul_comm] at this
    rw [← Int.natCast_mul, ← Int.natCast_add, this]
  · unfold intN
    obtain ⟨s1, s2⟩ := sign_text m (Lib.decDigits (m.natAbs / 10 ^ s)) (46 :: plac m.natAbs s) hh
    unfold numI
    rw [s1, s2, digs_app (dec_all _) (.inr ⟨_, rfl⟩), List.drop_left]
    split
    · exact takeN_rest (by simp)
    · rfl
theorem back_whole (m : Int) (ha : m.natAbs < 1000000000000) : readN (printN m 0) = chkL (m, 0) ∧ intN (printN m 0) = chkL (m, 0) := by
  have hh := dec_head m.natAbs []
  rw [List.append_nil] at hh
  obtain ⟨h1, h2⟩ := numR_whole m _ (dec_all m.natAbs) (dec_ne _) (dec_short (by omega) ha) hh
  unfold readN intN
  rw [print_zero, h1, h2, dec_val, sgn_abs, takeN_end]
  exact ⟨rfl, rfl⟩
theorem back_great (m : Int) (ha : m.natAbs = 1000000000000) : readN (printN m 0) = (0, 0, 20) ∧ intN (printN m 0) = (0, 0, 20) := by
  have hh := dec_head m.natAbs []
  have hl : 12 < (Lib.decDigits m.natAbs).length := by
    rw [Lib.decDigits_length, Lib.nDigits_unique 12 m.natAbs (by omega) (by omega)]; omega
  obtain ⟨h1, h2⟩ := num_long m _ [] (dec_all m.natAbs) hl (.inl rfl) hh
  rw [List.append_nil] at h1 h2
  unfold readN intN
  rw [print_zero, h1, h2]
  exact ⟨rfl, rfl⟩
/-- How what is read back hangs together with the number's least form. -/
def BackH (m s x y M S E k f : Int) : Prop :=
  (100000000 < x ∧ (E != 0) = true) ∨ (x < -100000000 ∧ (E != 0) = true) ∨
  (-100000000 ≤ x ∧ x ≤ 100000000 ∧ E = 0 ∧ M = x ∧ S = y ∧ 0 < s ∧ f = 20) ∨ (-100000000 ≤ x ∧ x ≤ 100000000 ∧ E = 0 ∧ M = x ∧ S = y ∧ s = 0 ∧ f = 0 ∧ k = m)
theorem back_all (m : Int) (s : Nat) (hs : s ≤ 6) (h1 : -1000000000000 ≤ m) (h2 : m ≤ 1000000000000) :
    BackH m s (least s m).1 ((least s m).2 : Int) (readN (printN m s)).1 ((readN (printN m s)).2.1 : Int) (readN (printN m s)).2.2 (intN (printN m s)).1 (intN (printN m s)).2.2 := by
  unfold BackH
  by_cases hs0 : s = 0
  · subst hs0
    have hl : least 0 m = (m, 0) := rfl
    rw [hl]
    by_cases hg : m.natAbs = 1000000000000
    · rw [(back_great m hg).1, (back_great m hg).2]
      by_cases hp : 0 < m
      · exact .inl ⟨by simp only; omega, rfl⟩
      · exact .inr (.inl ⟨by simp only; omega, rfl⟩)
    · obtain ⟨e1, e2⟩ := back_whole m (by omega)
      rw [e1, e2]
      by_cases hf : fitB m = true
      · have := fitB_of hf
        rw [chkL_yes hf]
        exact .inr (.inr (.inr ⟨this.1, this.2, rfl, rfl, rfl, rfl, rfl, rfl⟩))
      · rw [chkL_no hf]
        rcases fitB_not hf with h | h
        · exact .inr (.inl ⟨h, rfl⟩)
        · exact .inl ⟨h, rfl⟩
  · obtain ⟨e1, e2⟩ := back_places m s (by omega) hs (by omega)
    rw [e1, e2]
    generalize least s m = l
    obtain ⟨x, y⟩ := l
    by_cases hf : fitB x = true
    · have := fitB_of hf
      rw [chkL_yes hf]
      exact .inr (.inr (.inl ⟨this.1, this.2, rfl, rfl, rfl, by omega, rfl⟩))
    · rw [chkL_no hf]
      rcases fitB_not hf with h | h
      · exact .inr (.inl ⟨h, rfl⟩)
      · exact .inl ⟨h, rfl⟩
theorem print_short (m : Int) (s : Nat) (hs : s ≤ 6) (ha : m.natAbs ≤ 1000000000000) : (printN m s).length ≤ 100 := by
  have h0 : (if m < 0 then [(45 : UInt8)] else []).length ≤ 1 := by split <;> simp
  by_cases h : s = 0
  · subst h
    rw [print_zero, List.length_append]
    have := (dec_len m.natAbs (by omega)).2
    omega
  · rw [print_places m s h, List.length_append, List.length_append, List.length_cons, (plac_spec m.natAbs s).1]
    have := div_short ha (show 1 ≤ s by omega)
    omega
#print axioms back_all
end Go.Fx
/- Plain facts: rows of a text, a line feed, and another text. No program. -/
namespace Go.Sheet
open Go.Cur Go.Wds Go.Proofs Go.Fx
/-- The rows of a text. -/
def rowsT (l : List UInt8) : List Rw := (rowsOf l).map fun p => (p.1, wordsL l p.1 p.2.1)
theorem rowsE_zero (s : ByteArray) : rowsE s 0 = rowsT s.data.toList := by
  unfold rowsE rowsT
  have : (rowsOf s.data.toList).filter (fromB 0) = rowsOf s.data.toList := List.filter_eq_self.2 fun p _ => decide_eq_true (Int.natCast_nonneg _)
  rw [this]
  rfl
def shiftR (n : Nat) (r : Rw) : Rw := (r.1 + n, r.2.map (shift2 n))
theorem runs_low {l r : List UInt8} {b : Nat} (hb : b ≤ l.length) : ∀ {qs : List (Nat × Nat)} {a : Nat}, Runs l b a qs → Runs (l ++ r) b a qs
  | [], a, h => fun j x h1 h2 h3 => h j x h1 h2 (by rw [List.getElem?_append_left (by omega)] at h3; exact h3)
  | (p, q) :: qs, a, ⟨h1, h2, h3, h4, h5, h6, h7⟩ =>
    ⟨h1, h2, h3, fun j x i1 i2 i3 => h4 j x i1 i2 (by rw [List.getElem?_append_left (by omega)] at i3; exact i3), fun j x i1 i2 i3 => h5 j x i1 i2 (by rw [List.getElem?_append_left (by omega)] at i3; exact i3), fun hq x i => h6 hq x (by rw [List.getElem?_append_left (by omega)] at i; exact i), runs_low hb h7⟩
theorem words_low {l r : List UInt8} {a b : Nat} (hab : a ≤ b) (hb : b ≤ l.length) : wordsL (l ++ r) a b = wordsL l a b :=
  runs_eq (by rw [List.length_append]; omega) (runs_of hab (by rw [List.length_append]; omega)) (runs_low hb (runs_of hab hb))
theorem runs_high {a b : List UInt8} {m : Nat} : ∀ {qs : List (Nat × Nat)} {p : Nat}, Runs b m p qs → Runs (a ++ b) (m + a.length) (p + a.length) (qs.map (shift2 a.length))
  | [], p, h => fun j x h1 h2 h3 => by
    rw [List.getElem?_append_right (by omega)] at h3
    exact h (j - a.length) x (by omega) (by omega) h3
  | (u, v) :: qs, p, ⟨h1, h2, h3, h4, h5, h6, h7⟩ =>
    ⟨Nat.add_le_add_right h1 _, Nat.add_lt_add_right h2 _, Nat.add_le_add_right h3 _, fun j x i1 i2 i3 => by
      rw [List.getElem?_append_right (by omega)] at i3
      exact h4 (j - a.length) x (by omega) (by omega) i3, fun j x i1 i2 i3 => by
      rw [List.getElem?_append_right (by omega)] at i3
      exact h5 (j - a.length) x (by omega) (by omega) i3, fun hq x i => by
      rw [List.getElem?_append_right (by omega), Nat.add_sub_cancel] at i
      exact h6 (by omega) x i, runs_high h7⟩
theorem words_high {a b : List UInt8} {p q : Nat} (hpq : p ≤ q) (hq : q ≤ b.length) : wordsL (a ++ b) (p + a.length) (q + a.length) = (wordsL b p q).map (shift2 a.length) :=
  runs_eq (by rw [List.length_append]; omega) (runs_of (by omega) (by rw [List.length_append]; omega)) (runs_high (runs_of hpq hq))
theorem cut_low {l r : List UInt8} {a b : Nat} (hb : b ≤ l.length) : cutL (l ++ r) a b = cutL l a b := by
  unfold cutL
  rw [List.extract_eq_take_drop, List.extract_eq_take_drop]
  by_cases h : a ≤ b
  · rw [List.drop_append_of_le_length (by omega), List.take_append_of_le_length (by simp; omega)]
  · rw [show b - a = 0 from by omega, List.take_zero, List.take_zero]
theorem cut_high (a b : List UInt8) (p q : Nat) : cutL (a ++ b) (p + a.length) (q + a.length) = cutL b p q := by
  unfold cutL
  rw [List.extract_eq_take_drop, List.extract_eq_take_drop, show q + a.length - (p + a.length) = q - p from by omega, Nat.add_comm p, List.drop_append, List.drop_eq_nil_of_le (by omega), List.nil_append, Nat.add_sub_cancel_left]
theorem rowsT_join (a b : List UInt8) : rowsT (a ++ 10 :: b) = rowsT (a ++ [10]) ++ (rowsT b).map (shiftR (a.length + 1)) := by
  have hj := (lines_join a b).1
  have e0 : a ++ 10 :: b = (a ++ [10]) ++ b := by simp
  have hl : (a ++ [10]).length = a.length + 1 := by simp
  have k1 : ∀ p ∈ lines (a ++ [10]), p.1 ≤ p.2.1 ∧ p.2.1 ≤ (a ++ [10]).length := fun p hp => by
    obtain ⟨j, hj⟩ := List.getElem?_of_mem hp
    obtain ⟨x, y, z⟩ := p
    have := lines_get hj
    exact ⟨this.1, this.2.1⟩
  have k2 : ∀ p ∈ lines b, p.1 ≤ p.2.1 ∧ p.2.1 ≤ b.length := fun p hp => by
    obtain ⟨j, hj⟩ := List.getElem?_of_mem hp
    obtain ⟨x, y, z⟩ := p
    have := lines_get hj
    exact ⟨this.1, this.2.1⟩
  unfold rowsT rowsOf
  rw [hj, List.filter_append, List.map_append]
  congr 1
  · have f1 : (lines (a ++ [10])).filter (bare (a ++ 10 :: b)) = (lines (a ++ [10])).filter (bare (a ++ [10])) := List.filter_congr fun p hp => by
      unfold bare
      rw [e0, cut_low (k1 p hp).2]
    rw [f1]
    exact List.map_congr_left fun p hp => by
      have := k1 p (List.mem_filter.1 hp).1
      rw [e0, words_low this.1 this.2]
  · rw [List.filter_map, List.map_map, List.map_map]
    have f1 : (lines b).filter (bare (a ++ 10 :: b) ∘ shift3 (a.length + 1)) = (lines b).filter (bare b) := List.filter_congr fun p hp => by
      unfold bare
      simp only [Function.comp, shift3]
      rw [e0, ← hl, cut_high]
    rw [f1]
    exact List.map_congr_left fun p hp => by
      have := k2 p (List.mem_filter.1 hp).1
      simp only [Function.comp, shift3, shiftR]
      rw [e0, ← hl, words_high this.1 this.2]
theorem rowsT_nil : rowsT [] = [] := by decide
theorem rowsT_feed : rowsT [10] = [] := by decide
/-- A text without a line feed has one line. -/
theorem spans_flat : ∀ (l : List UInt8) (b a : Nat), (∀ x ∈ l, x ≠ 10) → spansFrom l b a = [(a, b + l.length)]
  | [], b, a, _ => rfl
  | c :: l, b, a, h => by
    rw [spansFrom, if_neg (h c (by simp)), spans_flat l (b + 1) a fun x hx => h x (by simp [hx]), List.length_cons]
    congr 2; omega
theorem rowsT_last {l : List UInt8} (h : ∀ x ∈ l, x ≠ 10) (hb : blankL l = false) : rowsT l = [(0, wordsL l 0 l.length)] := by
  have hne : l ≠ [] := fun e => by rw [e] at hb; cases hb
  have hlen : 0 < l.length := List.length_pos_iff.2 hne
  have e1 : spans l = [(0, l.length)] := by
    have := spans_flat l 0 0 h
    rw [Nat.zero_add] at this
    exact this
  have e2 : lines l = [(0, l.length, l.length)] := by
    unfold lines
    rw [e1, List.takeWhile_cons, if_pos (by simp; omega)]
    simp [lineAt]
  have e3 : cutL l 0 l.length = l := by unfold cutL; simp
  have e4 : bare l (0, l.length, l.length) = true := by
    unfold bare
    simp only
    rw [e3, hb]; rfl
  unfold rowsT rowsOf
  rw [e2, List.filter_cons, if_pos e4]
  rfl
/-- A row, a carriage return, two line feeds, and what follows. -/
theorem rowsT_row {l : List UInt8} (h : ∀ x ∈ l, x ≠ 10) (hb : blankL l = false) (r : List UInt8) : rowsT (l ++ 13 :: 10 :: 10 :: r) = (0, wordsL l 0 l.length) :: (rowsT r).map (shiftR (l.length + 3)) := by
  have hne : l ≠ [] := fun e => by rw [e] at hb; cases hb
  have hlen : 0 < l.length := List.length_pos_iff.2 hne
  have e0 : l ++ 13 :: 10 :: 10 :: r = (l ++ [13]) ++ 10 :: (10 :: r) := by simp
  have e1 : (10 :: r : List UInt8) = [] ++ 10 :: r := rfl
  rw [e0, rowsT_join, e1, rowsT_join [] r, show ([] ++ [10] : List UInt8) = [10] from rfl, rowsT_feed, List.nil_append, List.map_map]
  have hsp : spans (l ++ [13] ++ [10]) = [(0, l.length + 1), (l.length + 2, l.length + 2)] := by
    have hf : ∀ x ∈ l ++ [13], x ≠ (10 : UInt8) := fun x hx => by
      rcases List.mem_append.1 hx with hx | hx
      · exact h x hx
      · have : x = 13 := by simpa using hx
        rw [this]; decide
    obtain ⟨P, h0, h1, h2⟩ := spans_cut (l ++ [13]) 0 0 (Nat.le_refl _)
    have e5 : spansFrom ((l ++ [13]) ++ 10 :: []) 0 0 = (0, l.length + 1) :: [(l.length + 2, l.length + 2)] := by
      have : ∀ (m : List UInt8) (b a : Nat), (∀ x ∈ m, x ≠ 10) → spansFrom (m ++ [10]) b a = [(a, b + m.length), (b + m.length + 1, b + m.length + 1)] := by
        intro m
        induction m with
        | nil => intro b a _; rfl
        | cons c m ih =>
          intro b a hm
          rw [List.cons_append, spansFrom, if_neg (hm c (by simp)), ih (b + 1) a fun x hx => hm x (by simp [hx]), List.length_cons]
          congr 2
          · omega
          · congr 1
            all_goals omega
      have := this (l ++ [13]) 0 0 hf
      simpa using this
    exact e5
  have hln : lines (l ++ [13] ++ [10]) = [(0, l.length, l.length + 2)] := by
    unfold lines
    rw [hsp, List.takeWhile_cons, if_pos (by simp), List.takeWhile_cons, if_neg (by simp)]
    simp [lineAt]
  have e3 : cutL (l ++ [13] ++ [10]) 0 l.length = l := by unfold cutL; simp
  have e4 : bare (l ++ [13] ++ [10]) (0, l.length, l.length + 2) = true := by
    unfold bare
    simp only
    rw [e3, hb]; rfl
  have hr : rowsT (l ++ [13] ++ [10]) = [(0, wordsL l 0 l.length)] := by
    unfold rowsT rowsOf
    rw [hln, List.filter_cons, if_pos e4]
    simp only [List.filter_nil, List.map_cons, List.map_nil]
    rw [List.append_assoc, words_low (Nat.zero_le _) (Nat.le_refl _)]
  rw [hr]
  simp only [List.cons_append, List.nil_append]
  congr 1
  refine List.map_congr_left fun p _ => ?_
  simp only [Function.comp, shiftR, List.length_append, List.length_cons, List.length_nil, List.map_map]
  refine Prod.ext (by simp only; omega) ?_
  refine List.map_congr_left fun q _ => ?_
  simp only [Function.comp, shift2]
  refine Prod.ext ?_ ?_ <;> simp only <;> omega
end Go.Sheet
/- Plain facts: numbers that are written in rows of some words each are told again. No program. -/
namespace Go.Sheet
open Go.Cur Go.Wds Go.Proofs Go.Fx
/-- What stands behind the number i, w a row. -/
def sepW (w i : Nat) : List UInt8 := if i % w = w - 1 then [32, 13, 10, 10] else [9, 32]
/-- The text of numbers, from the number i on. -/
def txtW (w : Nat) : Nat → List Int → List UInt8
  | _, [] => []
  | i, n :: l => Lib.itoa n ++ sepW w i ++ txtW w (i + 1) l
theorem txtW_append (w : Nat) : ∀ (a b : List Int) (i : Nat), txtW w i (a ++ b) = txtW w i a ++ txtW w (i + a.length) b
  | [], b, i => by simp [txtW]
  | n :: a, b, i => by
    rw [List.cons_append, txtW, txtW, txtW_append w a b (i + 1), List.length_cons, show i + 1 + a.length = i + (a.length + 1) from by omega]
    simp [List.append_assoc]
theorem txtW_take {w : Nat} {l : List Int} {k : Nat} {n : Int} (h : l[k]? = some n) : txtW w 0 (l.take (k + 1)) = txtW w 0 (l.take k) ++ Lib.itoa n ++ sepW w k := by
  have hk : k < l.length := (List.getElem?_eq_some_iff.1 h).1
  rw [Go.Wds.take_get h, txtW_append, List.length_take, Nat.zero_add, Nat.min_eq_left (by omega)]
  simp [txtW, List.append_assoc]
/-- A number's text: no blank, no line feed. -/
theorem itoa_ink (n : Int) : (∀ x ∈ Lib.itoa n, blk x = false ∧ x ≠ 10) ∧ Lib.itoa n ≠ [] := by
  have hd : ∀ (u : Nat), ∀ x ∈ Lib.decDigits u, blk x = false ∧ x ≠ 10 := fun u x hx => by
    have h1 := dec_all u
    rw [List.all_eq_true] at h1
    have := dg_bd (h1 x hx)
    refine ⟨?_, fun e => by subst e; simp at this⟩
    unfold blk
    rw [Bool.or_eq_false_iff, beq_eq_false_iff_ne, beq_eq_false_iff_ne]
    exact ⟨fun e => by subst e; simp at this, fun e => by subst e; simp at this⟩
  have hn : ∀ u, Lib.decDigits u ≠ [] := fun u e => by have := dec_ne u; rw [e] at this; simp at this
  unfold Lib.itoa
  split
  · refine ⟨fun x hx => ?_, by simp⟩
    rcases List.mem_cons.1 hx with rfl | hx
    · exact ⟨by decide, by decide⟩
    · exact hd _ x hx
  · exact ⟨hd _, hn _⟩
theorem itoa_print (n : Int) : printN n 0 = Lib.itoa n := by
  rw [print_zero]
  unfold Lib.itoa
  by_cases h : n < 0
  · rw [if_pos h, if_pos h]; rfl
  · rw [if_neg h, if_neg h, List.nil_append, show n.natAbs = n.toNat from by omega]
/-- The word reads as the number. -/
def Rds (l : List UInt8) (w : Nat × Nat) (n : Int) : Prop := w.1 ≤ w.2 ∧ w.2 ≤ l.length ∧ tx l w.1 w.2 = Lib.itoa n
theorem Rds.low {l r : List UInt8} {w : Nat × Nat} {n : Int} (h : Rds l w n) : Rds (l ++ r) w n := ⟨h.1, by have := h.2.1; simp; omega, by rw [tx_append h.2.1]; exact h.2.2⟩
theorem Rds.high {a b : List UInt8} {w : Nat × Nat} {n : Int} (h : Rds b w n) : Rds (a ++ b) (shift2 a.length w) n := by
  refine ⟨Nat.add_le_add_right h.1 _, by have := h.2.1; simp [shift2]; omega, ?_⟩
  have := h.2.2
  unfold tx shift2 at *
  simp only
  rw [show w.2 + a.length - (w.1 + a.length) = w.2 - w.1 from by omega, Nat.add_comm w.1, List.drop_append, List.drop_eq_nil_of_le (by omega), List.nil_append, Nat.add_sub_cancel_left]
  exact this
/-- Numbers by rows of w; those of the row under way ahead. -/
def grpW (w : Nat) : List Int → List Int → List (List Int)
  | cur, [] => if cur = [] then [] else [cur]
  | cur, n :: l => if cur.length + 1 = w then (cur ++ [n]) :: grpW w [] l else grpW w (cur ++ [n]) l
/-- Words read as numbers, one by one. -/
def RdsA (l : List UInt8) : List (Nat × Nat) → List Int → Prop
  | [], [] => True
  | w :: ws, n :: ns => Rds l w n ∧ RdsA l ws ns
  | _, _ => False
theorem RdsA.map {l l' : List UInt8} {f : Nat × Nat → Nat × Nat} (hf : ∀ w n, Rds l w n → Rds l' (f w) n) : ∀ {ws : List (Nat × Nat)} {ns : List Int}, RdsA l ws ns → RdsA l' (ws.map f) ns
  | [], [], _ => trivial
  | _ :: _, _ :: _, ⟨h1, h2⟩ => ⟨hf _ _ h1, RdsA.map hf h2⟩
  | [], _ :: _, h => h.elim
  | _ :: _, [], h => h.elim
theorem RdsA.snoc {l : List UInt8} {w : Nat × Nat} {n : Int} (h : Rds l w n) : ∀ {ws : List (Nat × Nat)} {ns : List Int}, RdsA l ws ns → RdsA l (ws ++ [w]) (ns ++ [n])
  | [], [], _ => ⟨h, trivial⟩
  | _ :: _, _ :: _, ⟨h1, h2⟩ => ⟨h1, RdsA.snoc h h2⟩
  | [], _ :: _, h => h.elim
  | _ :: _, [], h => h.elim
theorem RdsA.len {l : List UInt8} : ∀ {ws : List (Nat × Nat)} {ns : List Int}, RdsA l ws ns → ws.length = ns.length
  | [], [], _ => rfl
  | _ :: _, _ :: _, ⟨_, h⟩ => by rw [List.length_cons, List.length_cons, RdsA.len h]
  | [], _ :: _, h => h.elim
  | _ :: _, [], h => h.elim
theorem RdsA.at {l : List UInt8} : ∀ {ws : List (Nat × Nat)} {ns : List Int} {i : Nat} {w : Nat × Nat}, RdsA l ws ns → ws[i]? = some w → ∃ n, ns[i]? = some n ∧ Rds l w n
  | [], [], i, w, _, h => by simp at h
  | v :: _, n :: _, 0, w, ⟨h1, _⟩, h => by
    obtain rfl : v = w := by simpa using h
    exact ⟨n, rfl, h1⟩
  | _ :: _, _ :: _, i + 1, w, ⟨_, h2⟩, h => by simpa using RdsA.at h2 (by simpa using h)
  | [], _ :: _, _, _, h, _ => h.elim
  | _ :: _, [], _, _, h, _ => h.elim
/-- Rows read as groups of numbers. -/
def RdsR (l : List UInt8) : List Rw → List (List Int) → Prop
  | [], [] => True
  | r :: rs, g :: gs => RdsA l r.2 g ∧ RdsR l rs gs
  | _, _ => False
theorem RdsR.map {l l' : List UInt8} {k : Nat} (hf : ∀ w n, Rds l w n → Rds l' (shift2 k w) n) : ∀ {rs : List Rw} {gs : List (List Int)}, RdsR l rs gs → RdsR l' (rs.map (shiftR k)) gs
  | [], [], _ => trivial
  | _ :: _, _ :: _, ⟨h1, h2⟩ => ⟨RdsA.map hf h1, RdsR.map hf h2⟩
  | [], _ :: _, h => h.elim
  | _ :: _, [], h => h.elim
theorem blank_not {l : List UInt8} {x : UInt8} (hx : x ∈ l) (h : blk x = false) : blankL l = false := by
  unfold blankL
  rw [List.all_eq_false]
  exact ⟨x, hx, by unfold blk at h; simpa using h⟩
/-- What is written is told. -/
theorem rows_told (w : Nat) (hw : 0 < w) : ∀ (ns : List Int) (i : Nat) (cur : List Int) (l : List UInt8) (qs : List (Nat × Nat)), cur.length = i % w → (∀ x ∈ l, x ≠ 10) → (∀ x, l[l.length - 1]? = some x → blk x = true) → Runs l l.length 0 qs → RdsA l qs cur → (cur = [] → l = []) → (cur ≠ [] → blankL l = false) →
    RdsR (l ++ txtW w i ns) (rowsT (l ++ txtW w i ns)) (grpW w cur ns)
  | [], i, cur, l, qs, hc, h10, hb, hr, hra, h0, h1 => by
    rw [txtW, List.append_nil, grpW]
    by_cases e : cur = []
    · rw [if_pos e, h0 e, rowsT_nil]; trivial
    · rw [if_neg e, rowsT_last h10 (h1 e), runs_eq (Nat.le_refl _) (runs_of (Nat.zero_le _) (Nat.le_refl _)) hr]
      exact ⟨hra, trivial⟩
  | n :: ns, i, cur, l, qs, hc, h10, hb, hr, hra, h0, h1 => by
    obtain ⟨hi, hne⟩ := itoa_ink n
    have hmod : i % w < w := Nat.mod_lt _ hw
    have hstep : ∀ z : List UInt8, (∀ x ∈ z, blk x = true ∧ x ≠ 10) → z ≠ [] →
        Runs (l ++ Lib.itoa n ++ z) (l ++ Lib.itoa n ++ z).length 0 (qs ++ [(l.length, l.length + (Lib.itoa n).length)]) ∧ RdsA (l ++ Lib.itoa n ++ z) (qs ++ [(l.length, l.length + (Lib.itoa n).length)]) (cur ++ [n]) ∧ (∀ x ∈ l ++ Lib.itoa n ++ z, x ≠ 10) ∧ blankL (l ++ Lib.itoa n ++ z) = false ∧ (∀ x, (l ++ Lib.itoa n ++ z)[(l ++ Lib.itoa n ++ z).length - 1]? = some x → blk x = true) := by
      intro z hz hz0
      refine ⟨runs_snoc hb (fun x hx => (hi x hx).1) hne (fun x hx => (hz x hx).1) hz0 qs 0 (Nat.zero_le _) hr, RdsA.snoc ?_ ?_, ?_, ?_, ?_⟩
      · refine ⟨Nat.le_add_right _ _, by simp, tx_mid _ _ _⟩
      · have := RdsA.map (f := id) (l := l) (l' := l ++ Lib.itoa n ++ z) (fun w n h => by rw [List.append_assoc]; exact h.low) hra
        rwa [List.map_id] at this
      · intro x hx
        rcases List.mem_append.1 hx with hx | hx
        · rcases List.mem_append.1 hx with hx | hx
          · exact h10 x hx
          · exact (hi x hx).2
        · exact (hz x hx).2
      · obtain ⟨x, hx⟩ := List.exists_mem_of_ne_nil _ hne
        exact blank_not (x := x) (by simp [hx]) (hi x hx).1
      · intro x hx
        have hzl : 0 < z.length := List.length_pos_iff.2 hz0
        rw [List.getElem?_append_right (by simp; omega)] at hx
        exact (hz x (List.mem_of_getElem? hx)).1
    by_cases e : cur.length + 1 = w
    · have es : sepW w i = [32, 13, 10, 10] := by unfold sepW; rw [if_pos (by omega)]
      have hz : ∀ x ∈ ([32] : List UInt8), blk x = true ∧ x ≠ 10 := fun x hx => by
        obtain rfl : x = 32 := by simpa using hx
        decide
      obtain ⟨k1, k2, k3, k4, k5⟩ := hstep [32] hz (by simp)
      have ih := rows_told w hw ns (i + 1) [] [] [] (by
        have h2 : (i + 1) % w = 0 := by
          rw [Nat.add_mod, show i % w = w - 1 from by omega]
          rcases Nat.lt_or_ge 1 w with h | h
          · rw [Nat.mod_eq_of_lt h, show w - 1 + 1 = w from by omega, Nat.mod_self]
          · have : w = 1 := by omega
            subst this; exact Nat.mod_one _
        rw [h2]; rfl) (fun x hx => by simp at hx) (fun x hx => by simp at hx) (fun j x a1 a2 a3 => by simp at a3) trivial (fun _ => rfl) (fun h => absurd rfl h)
      rw [List.nil_append] at ih
      have e0 : l ++ txtW w i (n :: ns) = (l ++ Lib.itoa n ++ [32]) ++ 13 :: 10 :: 10 :: txtW w (i + 1) ns := by
        rw [txtW, es]; simp [List.append_assoc]
      rw [e0, rowsT_row k3 k4, grpW, if_pos e, runs_eq (Nat.le_refl _) (runs_of (Nat.zero_le _) (Nat.le_refl _)) k1]
      refine ⟨?_, ?_⟩
      · have := RdsA.map (f := id) (l' := (l ++ Lib.itoa n ++ [32]) ++ 13 :: 10 :: 10 :: txtW w (i + 1) ns) (fun w n h => h.low) k2
        rwa [List.map_id] at this
      · refine RdsR.map (fun w' n' h => ?_) ih
        have h9 := Rds.high (a := (l ++ Lib.itoa n ++ [32]) ++ [13, 10, 10]) h
        have e9 : ((l ++ Lib.itoa n ++ [32]) ++ [13, 10, 10]).length = (l ++ Lib.itoa n ++ [32]).length + 3 := by simp; omega
        rw [e9, List.append_assoc (l ++ Lib.itoa n ++ [32])] at h9
        exact h9
    · have es : sepW w i = [9, 32] := by unfold sepW; rw [if_neg (by omega)]
      have hz : ∀ x ∈ ([9, 32] : List UInt8), blk x = true ∧ x ≠ 10 := fun x hx => by
        have : x = 9 ∨ x = 32 := by simpa using hx
        rcases this with rfl | rfl <;> decide
      obtain ⟨k1, k2, k3, k4, k5⟩ := hstep [9, 32] hz (by simp)
      have hm : (i + 1) % w = i % w + 1 := by
        rw [Nat.add_mod, Nat.mod_eq_of_lt (show 1 < w by omega), Nat.mod_eq_of_lt (by omega)]
      have ih := rows_told w hw ns (i + 1) (cur ++ [n]) _ _ (by simp; omega) k3 k5 k1 k2 (fun h => by simp at h) (fun _ => k4)
      have e0 : l ++ txtW w i (n :: ns) = (l ++ Lib.itoa n ++ [9, 32]) ++ txtW w (i + 1) ns := by
        rw [txtW, es]; simp [List.append_assoc]
      rw [e0, grpW, if_neg e]
      exact ih
/-! What is read of it. -/
theorem rdI_of {s : ByteArray} {w : Nat × Nat} {n : Int} (h : Rds s.data.toList w n) (h1 : -100000000 ≤ n) (h2 : n ≤ 100000000) : rdI s w = (n, 0) := by
  obtain ⟨k1, k2, k3⟩ := h
  have hs : s.data.toList.length = s.size := rfl
  have e : (wordT s w).data.toList = Lib.itoa n := by
    unfold wordT
    rw [textI_nat k1 (by rw [← hs]; exact k2), ← k3]
    unfold tx
    rw [ByteArray.data_extract, Array.toList_extract, List.extract_eq_take_drop]
  have hb := (back_whole n (by omega)).2
  rw [itoa_print] at hb
  unfold rdI
  rw [e, hb, chkL_yes (by simp [fitB]; omega)]
theorem takeW_told {s : ByteArray} : ∀ {ws : List (Nat × Nat)} {ns : List Int}, RdsA s.data.toList ws ns → (∀ n ∈ ns, -100000000 ≤ n ∧ n ≤ 100000000) → (∀ w ∈ ws, (rdI s w).2 = 0) ∧ ws.map (fun w => (rdI s w).1) = ns
  | [], [], _, _ => ⟨fun w hw => by simp at hw, rfl⟩
  | w :: ws, n :: ns, ⟨h1, h2⟩, hb => by
    have e := rdI_of h1 (hb n (by simp)).1 (hb n (by simp)).2
    obtain ⟨i1, i2⟩ := takeW_told h2 fun m hm => hb m (by simp [hm])
    refine ⟨fun v hv => ?_, by rw [List.map_cons, i2, e]⟩
    rcases List.mem_cons.1 hv with rfl | hv
    · rw [e]
    · exact i1 v hv
  | [], _ :: _, h, _ => h.elim
  | _ :: _, [], h, _ => h.elim
theorem ints_told {s : ByteArray} {r : Rw} {ns : List Int} (h : RdsA s.data.toList r.2 ns) (hb : ∀ n ∈ ns, -100000000 ≤ n ∧ n ≤ 100000000) : intsE s r (ns.length : Int) = (ns, 0, 0) ∧ intsE s r ((ns.length : Int) + 1) = ([], r.1, 3) := by
  have hl := h.len
  obtain ⟨h1, h2⟩ := takeW_told h hb
  constructor
  · unfold intsE
    rw [if_pos (by omega), takeW_all h1, h2]
  · unfold intsE
    rw [if_neg (by omega)]
/-- All the numbers of groups. -/
def catG : List (List Int) → List Int
  | [] => []
  | g :: gs => g ++ catG gs
theorem flat_told {s : ByteArray} : ∀ {rs : List Rw} {gs : List (List Int)}, RdsR s.data.toList rs gs → (∀ g ∈ gs, g ≠ [] ∧ ∀ n ∈ g, -100000000 ≤ n ∧ n ≤ 100000000) → flatE s rs (catG gs).length = (catG gs, rs.length, 0, 0)
  | [], [], _, _ => rfl
  | r :: rs, g :: gs, ⟨h1, h2⟩, hb => by
    have ih := flat_told h2 fun q hq => hb q (by simp [hq])
    obtain ⟨k1, k2⟩ := hb g (by simp)
    obtain ⟨e1, e2⟩ := takeW_told h1 k2
    have hl := h1.len
    have hg : 0 < g.length := List.length_pos_iff.2 k1
    have h := flat_row (s := s) (O := []) (i := 0) (m := (catG (g :: gs)).length) (p := r) (l := rs) (by simp [catG]; omega) (by simp [catG]; omega) e1
    rw [← flat_start] at h
    rw [h, e2, show (catG (g :: gs)).length - r.2.length = (catG gs).length from by simp [catG]; omega, ih]
    unfold combF
    rw [if_neg (by simp)]
    simp [catG]; omega
  | [], _ :: _, h, _ => h.elim
  | _ :: _, [], h, _ => h.elim
/-! The groups. -/
theorem grp_cat (w : Nat) : ∀ (l cur : List Int), catG (grpW w cur l) = cur ++ l
  | [], cur => by
    rw [grpW]
    split
    · rename_i h; rw [h]; rfl
    · simp [catG]
  | n :: l, cur => by
    rw [grpW]
    split
    · rw [catG, grp_cat w l []]; simp
    · rw [grp_cat w l]; simp
theorem grp_mem (w : Nat) : ∀ (l cur : List Int), ∀ g ∈ grpW w cur l, g ≠ []
  | [], cur, g, hg => by
    rw [grpW] at hg
    split at hg
    · simp at hg
    · rename_i h
      obtain rfl : g = cur := by simpa using hg
      exact h
  | n :: l, cur, g, hg => by
    rw [grpW] at hg
    split at hg
    · rcases List.mem_cons.1 hg with rfl | hg
      · simp
      · exact grp_mem w l [] g hg
    · exact grp_mem w l _ g hg
theorem cat_mem : ∀ {gs : List (List Int)} {g : List Int}, g ∈ gs → ∀ n ∈ g, n ∈ catG gs
  | g' :: gs, g, hg, n, hn => by
    rw [catG, List.mem_append]
    rcases List.mem_cons.1 hg with rfl | hg
    · exact .inl hn
    · exact .inr (cat_mem hg n hn)
theorem grp_step (w : Nat) : ∀ (l cur : List Int), cur.length < w → grpW w cur l = if w ≤ cur.length + l.length then (cur ++ l.take (w - cur.length)) :: grpW w [] (l.drop (w - cur.length)) else if cur ++ l = [] then [] else [cur ++ l]
  | [], cur, h => by
    rw [if_neg (by simp; omega), List.append_nil]
    rfl
  | n :: l, cur, h => by
    rw [grpW]
    by_cases e : cur.length + 1 = w
    · rw [if_pos e, if_pos (by simp; omega), show w - cur.length = 1 from by omega]
      rfl
    · rw [if_neg e, grp_step w l (cur ++ [n]) (by simp; omega)]
      simp only [List.length_append, List.length_cons, List.length_nil, Nat.zero_add]
      by_cases e2 : w ≤ cur.length + 1 + l.length
      · rw [if_pos e2, if_pos (by omega), show w - cur.length = (w - (cur.length + 1)) + 1 from by omega]
        simp
      · have e3 : ¬ w ≤ cur.length + (l.length + 1) := by omega
        have e4 : ¬ (cur ++ [n] ++ l = []) := by simp
        have e5 : ¬ (cur ++ n :: l = []) := by simp
        rw [if_neg e2, if_neg e3, if_neg e4, if_neg e5]
        simp
theorem grp_all {w : Nat} (hw : 0 < w) (l : List Int) : grpW w [] l = if w ≤ l.length then l.take w :: grpW w [] (l.drop w) else if l = [] then [] else [l] := by
  have := grp_step w l [] hw
  simpa using this
theorem grp_len {w : Nat} (hw : 0 < w) : ∀ (m : Nat) (l : List Int), l.length ≤ m → (grpW w [] l).length = (l.length + w - 1) / w
  | 0, l, h => by
    have e : l = [] := List.length_eq_zero_iff.1 (by omega)
    subst e
    rw [show (grpW w [] ([] : List Int)) = [] from rfl]
    simp only [List.length_nil, Nat.zero_add]
    exact (Nat.div_eq_of_lt (by omega)).symm
  | m + 1, l, h => by
    rw [grp_all hw]
    by_cases e : w ≤ l.length
    · rw [if_pos e, List.length_cons, grp_len hw m (l.drop w) (by rw [List.length_drop]; omega), List.length_drop, show l.length + w - 1 = (l.length - w + w - 1) + w from by omega, Nat.add_div_right _ hw]
    · rw [if_neg e]
      by_cases e2 : l = []
      · rw [if_pos e2, e2]
        simp only [List.length_nil, Nat.zero_add]
        exact (Nat.div_eq_of_lt (by omega)).symm
      · rw [if_neg e2]
        have hl : 0 < l.length := List.length_pos_iff.2 e2
        rw [show l.length + w - 1 = (l.length - 1) + w from by omega, Nat.add_div_right _ hw, Nat.div_eq_of_lt (by omega)]
        rfl
theorem grp_at {w : Nat} (hw : 0 < w) : ∀ (r : Nat) (l g : List Int), (grpW w [] l)[r]? = some g → g = (l.drop (r * w)).take w
  | 0, l, g, h => by
    rw [grp_all hw] at h
    rw [Nat.zero_mul, List.drop_zero]
    split at h
    · simpa using h.symm
    · rename_i e
      split at h
      · simp at h
      · obtain rfl : l = g := by simpa using h
        rw [List.take_of_length_le (by omega)]
  | r + 1, l, g, h => by
    rw [grp_all hw] at h
    split at h
    · have := grp_at hw r (l.drop w) g (by simpa using h)
      rw [this, List.drop_drop, Nat.succ_mul, Nat.add_comm w]
    · split at h
      · simp at h
      · simp at h
/-- What is told of the numbers want, q a row, in the rows lr of the text t. -/
structure Told (t : ByteArray) (lr : List Rw) (want : List Int) (q : Nat) : Prop where
  len : lr.length = (want.length + q - 1) / q
  flat : flatE t lr want.length = (want, lr.length, 0, 0)
  row : ∀ (i : Nat) (p : Rw), lr[i]? = some p → intsE t p (((want.drop (i * q)).take q).length : Int) = ((want.drop (i * q)).take q, 0, 0) ∧ intsE t p ((((want.drop (i * q)).take q).length : Int) + 1) = ([], p.1, 3)
theorem RdsR.len {l : List UInt8} : ∀ {rs : List Rw} {gs : List (List Int)}, RdsR l rs gs → rs.length = gs.length
  | [], [], _ => rfl
  | _ :: _, _ :: _, ⟨_, h⟩ => by rw [List.length_cons, List.length_cons, RdsR.len h]
  | [], _ :: _, h => h.elim
  | _ :: _, [], h => h.elim
theorem RdsR.at {l : List UInt8} : ∀ {rs : List Rw} {gs : List (List Int)} {i : Nat} {r : Rw}, RdsR l rs gs → rs[i]? = some r → ∃ g, gs[i]? = some g ∧ RdsA l r.2 g
  | [], [], i, w, _, h => by simp at h
  | v :: _, n :: _, 0, w, ⟨h1, _⟩, h => by
    obtain rfl : v = w := by simpa using h
    exact ⟨n, rfl, h1⟩
  | _ :: _, _ :: _, i + 1, w, ⟨_, h2⟩, h => by simpa using RdsR.at h2 (by simpa using h)
  | [], _ :: _, _, _, h, _ => h.elim
  | _ :: _, [], _, _, h, _ => h.elim
theorem told_all {want : List Int} {q : Nat} (hq : 0 < q) (hb : ∀ n ∈ want, -100000000 ≤ n ∧ n ≤ 100000000) : Told ⟨(txtW q 0 want).toArray⟩ (rowsE ⟨(txtW q 0 want).toArray⟩ 0) want q := by
  have h := rows_told q hq want 0 [] [] [] (by rw [Nat.zero_mod]; rfl) (fun x hx => by simp at hx) (fun x hx => by simp at hx) (fun j x a1 a2 a3 => by simp at a3) trivial (fun _ => rfl) (fun h => absurd rfl h)
  rw [List.nil_append] at h
  have e : rowsE ⟨(txtW q 0 want).toArray⟩ 0 = rowsT (txtW q 0 want) := rowsE_zero _
  rw [e]
  have hc := grp_cat q want []
  rw [List.nil_append] at hc
  have hmb : ∀ g ∈ grpW q [] want, g ≠ [] ∧ ∀ n ∈ g, -100000000 ≤ n ∧ n ≤ 100000000 := fun g hg => ⟨grp_mem q want [] g hg, fun n hn => hb n (by rw [← hc]; exact cat_mem hg n hn)⟩
  have hf := flat_told (s := ⟨(txtW q 0 want).toArray⟩) h hmb
  rw [hc] at hf
  refine ⟨by rw [h.len, grp_len hq want.length want (Nat.le_refl _)], hf, fun i p hp => ?_⟩
  obtain ⟨g, h1, h2⟩ := h.at hp
  have hg := grp_at hq i want g h1
  rw [← hg]
  exact ints_told (s := ⟨(txtW q 0 want).toArray⟩) h2 (hmb g (List.mem_of_getElem? h1)).2
end Go.Sheet
/- Plain facts on lists of places with numbers: which is below which, one put into a sorted list, many put one by one; no program. -/
namespace Go.Dg
abbrev Mk := Int × Int
/-- Is one below another one? -/
def lt (a b : Mk) : Bool := decide (a.1 < b.1 ∨ (a.1 = b.1 ∧ a.2 < b.2))
theorem lt_iff {a b : Mk} : lt a b = true ↔ (a.1 < b.1 ∨ (a.1 = b.1 ∧ a.2 < b.2)) := decide_eq_true_iff
theorem lt_no {a b : Mk} : lt a b = false ↔ ¬ (a.1 < b.1 ∨ (a.1 = b.1 ∧ a.2 < b.2)) := decide_eq_false_iff_not
theorem lt_irrefl (a : Mk) : lt a a = false := lt_no.2 (by omega)
theorem lt_trans {a b c : Mk} (h : lt a b = true) (k : lt b c = true) : lt a c = true := by
  rw [lt_iff] at *; omega
theorem lt_asymm {a b : Mk} (h : lt a b = true) : lt b a = false := by
  rw [lt_iff] at h; rw [lt_no]; omega
theorem lt_tri {a b : Mk} (h : lt a b = false) (hne : a ≠ b) : lt b a = true := by
  rw [lt_no] at h; rw [lt_iff]
  have : ¬ (a.1 = b.1 ∧ a.2 = b.2) := fun e => hne (Prod.ext e.1 e.2)
  omega
theorem lt_ne {a b : Mk} (h : lt a b = true) : a ≠ b := by rintro rfl; rw [lt_irrefl] at h; cases h

/-- Each above the one ahead of it. -/
def Srt : List Mk → Prop
  | [] => True
  | x :: r => (∀ y ∈ r, lt x y = true) ∧ Srt r
theorem Srt.tail {x : Mk} {r : List Mk} (h : Srt (x :: r)) : Srt r := h.2
theorem Srt.take : ∀ {l : List Mk} (n : Nat), Srt l → Srt (l.take n)
  | [], _, _ => by simp [Srt]
  | x :: r, 0, _ => by simp [Srt]
  | x :: r, n + 1, h => ⟨fun y hy => h.1 y (List.mem_of_mem_take hy), Srt.take n h.2⟩
theorem Srt.get : ∀ {l : List Mk} (_ : Srt l) {i j : Nat} {a b : Mk}, i < j → l[i]? = some a → l[j]? = some b → lt a b = true
  | [], _, i, j, a, b, _, h, _ => by simp at h
  | x :: r, hs, 0, j + 1, a, b, _, h1, h2 => by
    have e : x = a := by simpa using h1
    subst e
    have h2' : r[j]? = some b := by simpa using h2
    exact hs.1 b (List.mem_of_getElem? h2')
  | x :: r, hs, i + 1, j + 1, a, b, hij, h1, h2 => Srt.get hs.2 (i := i) (j := j) (by omega) (by simpa using h1) (by simpa using h2)
theorem Srt.of_get : ∀ {l : List Mk}, (∀ i a b, l[i]? = some a → l[i + 1]? = some b → lt a b = true) → Srt l
  | [], _ => trivial
  | [x], _ => ⟨fun _ h => (List.not_mem_nil h).elim, trivial⟩
  | x :: y :: r, h => by
    have ih : Srt (y :: r) := Srt.of_get fun i a b h1 h2 => h (i + 1) a b (by simpa using h1) (by simpa using h2)
    have hxy := h 0 x y rfl rfl
    refine ⟨fun z hz => ?_, ih⟩
    rcases List.mem_cons.1 hz with rfl | hz
    · exact hxy
    · exact lt_trans hxy (ih.1 z hz)

/-- d in its place among l, unless it is there. -/
def ins (d : Mk) : List Mk → List Mk
  | [] => [d]
  | x :: r => if lt x d = true then x :: ins d r else if x = d then x :: r else d :: x :: r
def putS (l : List Mk) (d : Mk) : List Mk := (ins d l).take 16
def allS (l : List Mk) : List Mk := l.foldl putS []
theorem mem_ins {d x : Mk} : ∀ {l : List Mk}, x ∈ ins d l ↔ x = d ∨ x ∈ l
  | [] => by simp [ins]
  | y :: r => by
    unfold ins
    split
    · rw [List.mem_cons, List.mem_cons, mem_ins]
      constructor
      · rintro (h | h | h) <;> simp [h]
      · rintro (h | h | h) <;> simp [h]
    · split
      · rename_i h; subst h
        simp
      · simp
theorem srt_ins {d : Mk} : ∀ {l : List Mk}, Srt l → Srt (ins d l)
  | [], _ => ⟨fun _ h => (List.not_mem_nil h).elim, trivial⟩
  | y :: r, h => by
    unfold ins
    split
    · rename_i h1
      refine ⟨fun z hz => ?_, srt_ins h.2⟩
      rcases mem_ins.1 hz with rfl | hz
      · exact h1
      · exact h.1 z hz
    · rename_i h1
      split
      · exact h
      · rename_i h2
        have h3 : lt d y = true := lt_tri (by simpa using h1) h2
        refine ⟨fun z hz => ?_, h⟩
        rcases List.mem_cons.1 hz with rfl | hz
        · exact h3
        · exact lt_trans h3 (h.1 z hz)
theorem len_ins (d : Mk) : ∀ (l : List Mk), (ins d l).length ≤ l.length + 1
  | [] => by simp [ins]
  | y :: r => by
    unfold ins
    split
    · have := len_ins d r; simp; omega
    · split <;> simp
theorem srt_putS {l : List Mk} {d : Mk} (h : Srt l) : Srt (putS l d) := (srt_ins h).take 16
theorem len_putS (l : List Mk) (d : Mk) : (putS l d).length ≤ 16 := by unfold putS; rw [List.length_take]; omega
theorem foldl_put : ∀ (l a : List Mk), Srt a → a.length ≤ 16 → Srt (l.foldl putS a) ∧ (l.foldl putS a).length ≤ 16
  | [], _, h, k => ⟨h, k⟩
  | d :: r, a, h, _ => foldl_put r (putS a d) (srt_putS h) (len_putS a d)
theorem srt_allS (l : List Mk) : Srt (allS l) := (foldl_put l [] trivial (by simp)).1
theorem len_allS (l : List Mk) : (allS l).length ≤ 16 := (foldl_put l [] trivial (by simp)).2

/-- What is cut off is not looked at. -/
theorem take_ins (d : Mk) : ∀ (n : Nat) (l : List Mk), (ins d (l.take n)).take n = (ins d l).take n
  | 0, _ => by simp
  | n + 1, [] => by simp
  | n + 1, x :: r => by
    simp only [List.take_succ_cons, ins]
    split
    · simp only [List.take_succ_cons]; rw [take_ins d n r]
    · split
      · simp [List.take_take]
      · simp only [List.take_succ_cons]
        cases n with
        | zero => simp
        | succ m => simp [List.take_take]
def insAll (l : List Mk) (a : List Mk) : List Mk := l.foldl (fun a d => ins d a) a
theorem foldl_take : ∀ (l a : List Mk), l.foldl putS (a.take 16) = (insAll l a).take 16
  | [], a => by simp [insAll]
  | d :: r, a => by
    have e : putS (a.take 16) d = (ins d a).take 16 := take_ins d 16 a
    simp only [List.foldl_cons, insAll, e]
    exact foldl_take r (ins d a)
theorem allS_eq (l : List Mk) : allS l = (insAll l []).take 16 := by
  have := foldl_take l []
  simpa [allS] using this
theorem mem_insAll {x : Mk} : ∀ {l a : List Mk}, x ∈ insAll l a ↔ x ∈ l ∨ x ∈ a
  | [], a => by simp [insAll]
  | d :: r, a => by
    have := mem_insAll (x := x) (l := r) (a := ins d a)
    simp only [insAll, List.foldl_cons] at this ⊢
    rw [this, mem_ins, List.mem_cons]
    constructor
    · rintro (h | h | h) <;> simp [h]
    · rintro ((h | h) | h) <;> simp [h]
theorem srt_insAll : ∀ {l a : List Mk}, Srt a → Srt (insAll l a)
  | [], _, h => h
  | d :: r, _, h => srt_insAll (l := r) (srt_ins (d := d) h)
/-- DgTwo sorted lists of the same elements are one. -/
theorem srt_ext : ∀ {a b : List Mk}, Srt a → Srt b → (∀ x, x ∈ a ↔ x ∈ b) → a = b
  | [], [], _, _, _ => rfl
  | [], y :: b, _, _, h => by have := (h y).2 (by simp); simp at this
  | x :: a, [], _, _, h => by have := (h x).1 (by simp); simp at this
  | x :: a, y :: b, ha, hb, h => by
    have e : x = y := by
      rcases List.mem_cons.1 ((h x).1 (by simp)) with e | hx
      · exact e
      · rcases List.mem_cons.1 ((h y).2 (by simp)) with e | hy
        · exact e.symm
        · have h1 := hb.1 x hx
          have h2 := ha.1 y hy
          rw [lt_asymm h1] at h2; cases h2
    subst e
    refine congrArg _ (srt_ext ha.2 hb.2 fun z => ?_)
    have hz := h z
    constructor
    · intro hza
      rcases List.mem_cons.1 (hz.1 (by simp [hza])) with rfl | h'
      · exact absurd rfl (lt_ne (ha.1 z hza))
      · exact h'
    · intro hzb
      rcases List.mem_cons.1 (hz.2 (by simp [hzb])) with rfl | h'
      · exact absurd rfl (lt_ne (hb.1 z hzb))
      · exact h'
theorem allS_perm {l m : List Mk} (h : ∀ x, x ∈ l ↔ x ∈ m) : allS l = allS m := by
  rw [allS_eq, allS_eq, srt_ext (a := insAll l []) (b := insAll m []) (srt_insAll (a := []) trivial) (srt_insAll (a := []) trivial) (fun x => by rw [mem_insAll, mem_insAll, h x])]

/-- How many are below d. -/
def below (l : List Mk) (d : Mk) : Nat := (l.takeWhile fun x => lt x d).length
theorem below_le (l : List Mk) (d : Mk) : below l d ≤ l.length := (List.takeWhile_sublist _).length_le
theorem below_lo {l : List Mk} {d : Mk} : ∀ {i : Nat} {x : Mk}, i < below l d → l[i]? = some x → lt x d = true := by
  induction l with
  | nil => intro i x _ h; simp at h
  | cons y r ih =>
    intro i x hi hx
    unfold below at hi
    rw [List.takeWhile_cons] at hi
    split at hi
    · rename_i h1
      cases i with
      | zero => have e : y = x := by simpa using hx
                subst e; exact h1
      | succ i => exact ih (i := i) (by unfold below; simp only [List.length_cons] at hi; omega) (by simpa using hx)
    · simp at hi
theorem below_at {l : List Mk} {d x : Mk} (h : l[below l d]? = some x) : lt x d = false := by
  induction l with
  | nil => simp [below] at h
  | cons y r ih =>
    unfold below at h
    rw [List.takeWhile_cons] at h
    split at h
    · exact ih (by unfold below; simpa using h)
    · rename_i h1
      have e : y = x := by simpa using h
      subst e; simpa using h1
/-- Where the list is sorted, whatever is not below d stands behind. -/
theorem below_of {l : List Mk} {d : Mk} (hs : Srt l) {k : Nat} {x : Mk} (h : l[k]? = some x) : (lt x d = true → k < below l d) ∧ (lt x d = false → below l d ≤ k) := by
  constructor
  · intro hx
    apply Nat.lt_of_not_le
    intro hk
    have hkl : k < l.length := (List.getElem?_eq_some_iff.1 h).1
    obtain ⟨y, hy⟩ : ∃ y, l[below l d]? = some y := ⟨_, List.getElem?_eq_getElem (by omega)⟩
    have h1 := below_at hy
    rcases Nat.eq_or_lt_of_le hk with e | hlt
    · rw [← e, hy] at h; cases h; rw [hx] at h1; cases h1
    · have h2 := lt_trans (hs.get hlt hy h) hx
      rw [h1] at h2; cases h2
  · intro hx
    apply Nat.le_of_not_lt
    intro hk
    rw [below_lo hk h] at hx; cases hx
theorem ins_eq {d : Mk} : ∀ {l : List Mk}, ins d l = if l[below l d]? = some d then l else l.take (below l d) ++ d :: l.drop (below l d)
  | [] => by simp [ins, below]
  | x :: r => by
    have ih := ins_eq (d := d) (l := r)
    unfold ins
    by_cases h1 : lt x d = true
    · have hb : below (x :: r) d = below r d + 1 := by unfold below; rw [List.takeWhile_cons, if_pos h1]; simp
      rw [if_pos h1, ih, hb]
      simp only [List.getElem?_cons_succ, List.take_succ_cons, List.drop_succ_cons]
      split <;> simp
    · have hb : below (x :: r) d = 0 := by unfold below; rw [List.takeWhile_cons, if_neg h1]; rfl
      rw [if_neg h1, hb]
      by_cases h2 : x = d
      · subst h2; simp
      · simp [h2]
theorem putS_there {l : List Mk} {d : Mk} (h : l[below l d]? = some d) (hl : l.length ≤ 16) : putS l d = l := by
  unfold putS; rw [ins_eq, if_pos h, List.take_of_length_le hl]
theorem putS_new {l : List Mk} {d : Mk} (h : l[below l d]? ≠ some d) : putS l d = (l.take (below l d) ++ d :: l.drop (below l d)).take 16 := by
  unfold putS; rw [ins_eq, if_neg h]
/-- The cells of a list. -/
def cellsOf (l : List Mk) : List Value := l.flatMap fun p => [.int .i64 p.1, .int .i64 p.2]
theorem cells_snoc (l : List Mk) (a b : Int) : cellsOf (l ++ [(a, b)]) = cellsOf l ++ [.int .i64 a, .int .i64 b] := by simp [cellsOf]
theorem cells_append (l m : List Mk) : cellsOf (l ++ m) = cellsOf l ++ cellsOf m := by simp [cellsOf]
theorem cells_len : ∀ (l : List Mk), (cellsOf l).length = l.length * 2
  | [] => rfl
  | x :: r => by have := cells_len r; simp only [cellsOf, List.flatMap_cons, List.length_append, List.length_cons, List.length_nil] at this ⊢; omega
theorem cells_take : ∀ (k : Nat) (l : List Mk), (cellsOf l).take (k * 2) = cellsOf (l.take k)
  | 0, _ => by simp [cellsOf]
  | k + 1, [] => by simp [cellsOf]
  | k + 1, x :: r => by
    have := cells_take k r
    simp only [cellsOf, List.flatMap_cons, List.take_succ_cons] at this ⊢
    rw [show (k + 1) * 2 = k * 2 + 1 + 1 from by omega]
    simp [this]
theorem cells_drop : ∀ (k : Nat) (l : List Mk), (cellsOf l).drop (k * 2) = cellsOf (l.drop k)
  | 0, _ => by simp
  | k + 1, [] => by simp [cellsOf]
  | k + 1, x :: r => by
    have := cells_drop k r
    simp only [cellsOf, List.flatMap_cons, List.drop_succ_cons] at this ⊢
    rw [show (k + 1) * 2 = k * 2 + 1 + 1 from by omega]
    simp [this]
theorem cells_get : ∀ {l : List Mk} {i : Nat} {a b : Int}, l[i]? = some (a, b) → (cellsOf l)[i * 2]? = some (.int .i64 a) ∧ (cellsOf l)[i * 2 + 1]? = some (.int .i64 b)
  | [], i, a, b, h => by simp at h
  | x :: r, 0, a, b, h => by
    have e : x = (a, b) := by simpa using h
    subst e; exact ⟨rfl, rfl⟩
  | x :: r, i + 1, a, b, h => by
    have := cells_get (l := r) (i := i) (a := a) (b := b) (by simpa using h)
    rw [show (i + 1) * 2 = i * 2 + 1 + 1 from by omega]
    simpa [cellsOf] using this
theorem cells_one (l : List Mk) : ∀ v ∈ cellsOf l, v.oneCell' = true := by
  intro v hv
  simp only [cellsOf, List.mem_flatMap, List.mem_cons, List.not_mem_nil, or_false] at hv
  obtain ⟨p, _, h | h⟩ := hv <;> (subst h; rfl)
theorem take_get {α : Type} {l : List α} {k : Nat} {x : α} (h : l[k]? = some x) : l.take (k + 1) = l.take k ++ [x] := by
  obtain ⟨hk, rfl⟩ := List.getElem?_eq_some_iff.1 h
  exact List.take_succ_eq_append_getElem hk
end Go.Dg
/- cmp.Compare and cmp.Or as this program calls them; the order of marks. No condition but that a list of two is what it is. -/
namespace Go.Dg
def cmpI (x y : Int) : Int := if x < y then -1 else if y < x then 1 else 0
def orI (x y : Int) : Int := if x = 0 then y else x
def cmpM (a b : Mk) : Int := orI (cmpI a.1 b.1) (cmpI a.2 b.2)
theorem cmpM_lt {a b : Mk} : cmpM a b < 0 ↔ lt a b = true := by
  rw [lt_iff]; unfold cmpM orI cmpI
  split <;> (repeat' split at *) <;> omega
theorem cmpM_eq {a b : Mk} : cmpM a b = 0 ↔ a = b := by
  unfold cmpM orI cmpI
  constructor
  · intro h
    refine Prod.ext ?_ ?_ <;> (split at h <;> (repeat' split at *) <;> omega)
  · rintro rfl
    simp
theorem cmpM_le {a b : Mk} : cmpM a b ≤ 0 ↔ lt b a = false := by
  rw [lt_no]; unfold cmpM orI cmpI
  split <;> (repeat' split at *) <;> omega
theorem cmpI_in (x y : Int) : cmpI x y = -1 ∨ cmpI x y = 0 ∨ cmpI x y = 1 := by
  unfold cmpI; split
  · exact .inl rfl
  · split
    · exact .inr (.inr rfl)
    · exact .inr (.inl rfl)
end Go.Dg
namespace Go.Proofs
open Go.RowKit Go.Dg
attribute [local go_sem] Oper.semAt_some
attribute [local go_sem ↓] Go.wp_at_zero Go.wp_at_succ

theorem ret_int' {k : IntKind} {a b : Int} (h : a = b) : Ending.returned (.int k a) = .returned (.int k b) := by rw [h]
/-- A block of two cells, of the call's own. -/
def DgTwo (W : World) (b : Nat) (x y : Value) : Prop := b < W.heap.size ∧ W.cell? ⟨b, 0, none⟩ = some x ∧ W.cell? ⟨b, 1, none⟩ = some y
theorem DgTwo.new (w : World) (x y : Value) (t : TypeId) : DgTwo (w.alloc (.cells #[x, y] t)) w.heap.size x y := by
  have e := World.alloc_heap_new w (.cells #[x, y] t)
  refine ⟨by simp, ?_, ?_⟩
  · unfold World.cell?; simp only [e]; rfl
  · unfold World.cell?; simp only [e]; rfl
theorem DgTwo.newAt {w : World} {n : Nat} (x y : Value) (t : TypeId) (h : n = w.heap.size) : DgTwo (w.alloc (.cells #[x, y] t)) n x y := by rw [h]; exact DgTwo.new w x y t
theorem DgTwo.below {B b : Nat} {W W' : World} {x y : Value} (h : DgTwo W b x y) (hb : Below B W W') (hlt : b < B) : DgTwo W' b x y :=
  ⟨Nat.lt_of_lt_of_le h.1 hb.size, (hb.cell (p := ⟨b, 0, none⟩) hlt).trans h.2.1, (hb.cell (p := ⟨b, 1, none⟩) hlt).trans h.2.2⟩
theorem DgTwo.next {b : Nat} {W W' : World} {x y : Value} (h : DgTwo W b x y) (hb : Below W.heap.size W W') : DgTwo W' b x y := h.below hb h.1
theorem DgTwo.alloc {b : Nat} {W : World} {x y : Value} (h : DgTwo W b x y) (o : Obj) : DgTwo (W.alloc o) b x y := h.next ((Below.refl _ _).alloc (Nat.le_refl _) o)
theorem DgTwo.drew {b : Nat} {W : World} {x y : Value} (h : DgTwo W b x y) : DgTwo W.drew b x y := h
/-- What the comparison holds while it goes. -/
def Held2 (w : World) (a b : Mk) (W : World) : Prop := DgTwo W w.heap.size (.int .i64 a.1) (.int .i64 a.2) ∧ DgTwo W (w.heap.size + 1) (.int .i64 b.1) (.int .i64 b.2) ∧ Below w.heap.size w W
theorem Held2.new (w : World) (a b : Mk) (t u : TypeId) : Held2 w a b ((w.alloc (.cells #[.int .i64 a.1, .int .i64 a.2] t)).alloc (.cells #[.int .i64 b.1, .int .i64 b.2] u)) :=
  ⟨(DgTwo.new _ _ _ _).alloc _, by have := DgTwo.new (w.alloc (.cells #[.int .i64 a.1, .int .i64 a.2] t)) (.int .i64 b.1) (.int .i64 b.2) u; simpa using this, ((Below.refl _ w).alloc (Nat.le_refl _) _).alloc (by simp) _⟩
theorem Held2.drew {w W : World} {a b : Mk} (h : Held2 w a b W) : Held2 w a b W.drew := ⟨h.1, h.2.1, h.2.2.drew⟩
theorem Held2.alloc {w W : World} {a b : Mk} (h : Held2 w a b W) (o : Obj) : Held2 w a b (W.alloc o) := ⟨h.1.alloc o, h.2.1.alloc o, h.2.2.alloc h.2.2.size o⟩
theorem Held2.next {w W W' : World} {a b : Mk} (h : Held2 w a b W) (hb : Below W.heap.size W W') : Held2 w a b W' := ⟨h.1.next hb, h.2.1.next hb, h.2.2.trans (hb.mono h.2.2.size)⟩
theorem held2_S {w W : World} {a b : Mk} (h : Held2 w a b W) : W.cell? ⟨w.heap.size, 0, none⟩ = some (.int .i64 a.1) ∧ W.cell? ⟨w.heap.size, 1, none⟩ = some (.int .i64 a.2) ∧ W.cell? ⟨w.heap.size + 1, 0, none⟩ = some (.int .i64 b.1) ∧ W.cell? ⟨w.heap.size + 1, 1, none⟩ = some (.int .i64 b.2) ∧ Held2 w a b W := ⟨h.1.2.1, h.1.2.2, h.2.1.2.1, h.2.1.2.2, h⟩
end Go.Proofs
/- strconv.Itoa as this program calls it, and the document's own Num: the decimal text of a number. Conditions: an int; the table of powers of ten holds what the card lays (Itoa). -/
namespace Go.Dg
theorem cat (x y : List UInt8) : (⟨x.toArray⟩ : ByteArray) ++ ⟨y.toArray⟩ = ⟨(x ++ y).toArray⟩ := by
  apply ByteArray.ext
  simp
theorem byte_of {x : Nat} (h : x < 10) : (UInt8.ofNat (48 + x)).toNat = 48 + x := by
  rw [UInt8.toNat_ofNat']; omega
/-- What the loop over the digits holds. -/
def Dig (n q : Nat) (s : List UInt8) : Prop := (s = [] ∧ q = n) ∨ (s ≠ [] ∧ q = 0 ∧ s = Lib.decDigits n) ∨ (s ≠ [] ∧ 0 < q ∧ Lib.decDigits n = Lib.decDigits q ++ s)
theorem Dig.step {n q : Nat} {s : List UInt8} (h : Dig n q s) (hq : 0 < q ∨ s = []) : Dig n (q / 10) (UInt8.ofNat (48 + q % 10) :: s) := by
  have key : Lib.decDigits n = Lib.decDigits q ++ s := by
    rcases h with ⟨rfl, rfl⟩ | ⟨h1, h2, h3⟩ | ⟨h1, h2, h3⟩
    · simp
    · rcases hq with hq | hq
      · omega
      · exact absurd hq h1
    · exact h3
  by_cases h10 : q < 10
  · refine .inr (.inl ⟨by simp, by omega, ?_⟩)
    rw [key, Lib.decDigits_one h10, Nat.mod_eq_of_lt h10]; rfl
  · refine .inr (.inr ⟨by simp, by omega, ?_⟩)
    rw [key, Lib.decDigits, dif_neg h10]; simp
theorem Dig.done {n : Nat} {s : List UInt8} (h : Dig n 0 s) (hs : s ≠ []) : s = Lib.decDigits n := by
  rcases h with ⟨h1, _⟩ | ⟨_, _, h⟩ | ⟨_, h, _⟩
  · exact absurd h1 hs
  · exact h
  · omega
theorem Dig.len {n q : Nat} {s : List UInt8} (h : Dig n q s) (hn : n < 18446744073709551616) : s.length ≤ 20 := by
  have hd : (Lib.decDigits n).length ≤ 20 := by rw [Lib.decDigits_length]; exact Lib.nDigits_le20 n hn
  rcases h with ⟨rfl, _⟩ | ⟨_, _, rfl⟩ | ⟨_, _, h⟩
  · simp
  · exact hd
  · rw [h] at hd; simp at hd; omega
end Go.Dg
namespace Go.Proofs
open Go.RowKit Go.Dg Go.Sort
attribute [local go_sem] Oper.semAt_some
attribute [local go_sem ↓] Go.wp_at_zero Go.wp_at_succ
/-- The table of powers of ten holds what the card lays. -/
def Tab (w : World) : Prop := Lib.TabIs Try.prog w "internal/strconv.uint64pow10" .u64 Lib.pow10Tab
theorem Tab.below {n : Nat} {w w' : World} (h : Tab w) (hb : Below n w w') (hn : w.heap.size ≤ n) : Tab w' := by
  unfold Tab Lib.TabIs World.var? at h ⊢
  cases hg : Try.prog.globalNamed "internal/strconv.uint64pow10" with
  | none => rw [hg] at h; cases h
  | some g =>
    rw [hg] at h
    simp only [Option.bind_some] at h ⊢
    have hlt : g < w.heap.size := by
      rcases Nat.lt_or_ge g w.heap.size with h' | h'
      · exact h'
      · rw [Array.getElem?_eq_none h'] at h; cases h
    rw [hb.block g (by omega)]
    exact h
theorem Tab.next {w w' : World} (h : Tab w) (hb : Below w.heap.size w w') : Tab w' := h.below hb (Nat.le_refl _)
theorem Tab.alloc {w : World} (h : Tab w) (o : Obj) : Tab (w.alloc o) := h.next ((Below.refl _ w).alloc (Nat.le_refl _) o)
theorem below_grow (w : World) (n : Nat) (os : Array Obj) : Below w.heap.size w (grow (w.drewN n) os) :=
  ⟨rfl, rfl, rfl, by simp [grow], fun k hk => by simp only [grow]; rw [Array.getElem?_append_left (by simpa using hk)]; simp⟩
end Go.Proofs
/- The document's own Num: the decimal text of a number. Conditions: an int. -/
namespace Go.Proofs
open Go.RowKit Go.Dg Go.Sort
attribute [local go_sem] Oper.semAt_some
attribute [local go_sem ↓] Go.wp_at_zero Go.wp_at_succ
/-- A byte as a text. -/
theorem one_byte (W : World) (d : Nat) (h : d < 10) : (convert 112 9 (.slice (some ⟨W.heap.size, 0, none⟩) 1 1)).run Try.prog (W.alloc (.cells #[.int .u8 (48 + (d : Int))] 5)) = .ok (.string ⟨[UInt8.ofNat (48 + d)].toArray⟩) (W.alloc (.cells #[.int .u8 (48 + (d : Int))] 5)) := by
  have hb : ((UInt8.ofNat (48 + d)).toNat : Int) = 48 + (d : Int) := by rw [byte_of h]; omega
  rw [← hb]
  refine run_convert_bytes_back (P := Try.prog) (W.alloc (.cells #[.int .u8 ((UInt8.ofNat (48 + d)).toNat : Int)] 5)) 112 9 5 ⟨W.heap.size, 0, none⟩ 1 [UInt8.ofNat (48 + d)] Try.underlying112 Try.underlying5 Try.underlying9 (fun j hj => ?_)
  obtain rfl : j = 0 := by simp at hj; omega
  have e := World.alloc_heap_new W (.cells #[.int .u8 ((UInt8.ofNat (48 + d)).toNat : Int)] 5)
  rw [Addr.add_lit]
  unfold World.cell?; simp only [e]; rfl
set_option maxRecDepth 100000 in
set_option maxHeartbeats 2000000 in
theorem Try.digits_any (n : Nat) (hn : n ≤ 9223372036854775808) (w : World) :
    Calls Try.prog 45 #[.int .u64 (n : Int)] w fun e w' => e = .returned (.string ⟨(Lib.decDigits n).toArray⟩) ∧ Below w.heap.size w w' := by
  go_enter Try.func45, Try.ntmps45
  go_wp2
  go_loopg [0, 3] 21 (fun g v0 v3 wr => ∃ (q : Nat) (l : List UInt8), g = 21 - l.length ∧ q ≤ 9223372036854775808 ∧ v0 = .int .u64 (q : Int) ∧ v3 = .string ⟨l.toArray⟩ ∧ l.length ≤ 20 ∧ Below w.heap.size w wr ∧ Hid (Dig n q l))
  case atStart => exact ⟨n, [], rfl, hn, rfl, rfl, by simp, Below.refl _ _, .inl ⟨rfl, rfl⟩⟩
  case round =>
    obtain ⟨q, l, hg, hq, rfl, rfl, hl, hB, HH⟩ := hrel
    obtain ⟨D, hD⟩ : ∃ D, D = UInt8.ofNat (48 + q % 10) := ⟨_, rfl⟩
    have hcv : ∀ W : World, (convert 112 9 (.slice (some ⟨W.heap.size, 0, none⟩) 1 1)).run Try.prog (W.alloc (.cells #[.int .u8 (48 + (q : Int) % 10)] 5)) = .ok (.string ⟨[D].toArray⟩) (W.alloc (.cells #[.int .u8 (48 + (q : Int) % 10)] 5)) := by
      intro W
      have := one_byte W (q % 10) (by omega)
      rw [hD]
      simpa using this
    have bn := Below.alloc hB hB.size (.cells #[.int .u8 (48 + (q : Int) % 10)] 5)
    by_cases h : 0 < q ∨ l = []
    · have HN : Hid (Dig n (q / 10) (D :: l)) := by rw [hD]; exact HH.out.step h
      have hl2 : (D :: l).length ≤ 20 := HN.out.len (by omega)
      have hl3 : l.length + 1 ≤ 20 := by simpa using hl2
      clear hD hl2 HH
      by_cases h0 : 0 < q
      · have hq1 : (0 : Int) < (q : Int) := by omega
        clear h
        go_wp2
        go_roundg (21 - (l.length + 1))
        case measure => omega
        case rel => exact ⟨q / 10, D :: l, by simp, by omega, by simp, by rw [show (⟨#[D]⟩ : ByteArray) = ⟨[D].toArray⟩ from rfl, cat]; rfl, by simpa using hl3, bn, HN⟩
      · obtain rfl : q = 0 := by omega
        obtain rfl : l = [] := by rcases h with h | h; omega; exact h
        have hcz : ∀ W : World, (convert 112 9 (.slice (some ⟨W.heap.size, 0, none⟩) 1 1)).run Try.prog (W.alloc (.cells #[.int .u8 48] 5)) = .ok (.string ⟨[D].toArray⟩) (W.alloc (.cells #[.int .u8 48] 5)) := fun W => hcv W
        have bz := Below.alloc hB hB.size (.cells #[.int .u8 48] 5)
        clear hcv h h0 bn
        go_wp2
        go_roundg (21 - (0 + 1))
        case measure => simp at hg; omega
        case rel => exact ⟨0, [D], by simp, by omega, by simp, rfl, by simp, bz, HN⟩
    · obtain rfl : q = 0 := by omega
      have hln : l ≠ [] := fun e => h (.inr e)
      have HE := Lib.hid (HH.out.done hln)
      have hne : l.isEmpty = false := by cases l with | nil => exact absurd rfl hln | cons _ _ => rfl
      clear h hcv HH bn hD hln
      go_wp2
      go_ret
      exact ⟨by rw [← HE.out]; rfl, hB⟩
theorem Try.Num_pos (n : Nat) (hn : n ≤ 9223372036854775807) (w : World) :
    Calls Try.prog 26 #[.int .i64 (n : Int)] w fun e w' => e = .returned (.string ⟨(Lib.itoa (n : Int)).toArray⟩) ∧ Below w.heap.size w w' := by
  have HD : Hid (∀ W, Calls Try.prog 45 #[.int .u64 (n : Int)] W fun e w' => e = .returned (.string ⟨(Lib.itoa (n : Int)).toArray⟩) ∧ Below W.heap.size W w') := fun W => by
    rw [Lib.itoa_nonneg]; exact Try.digits_any n (by omega) W
  go_enter Try.func26, Try.ntmps26
  go_wp2_with (go_at_call 45; (with_reducible refine (HD.out _).mono ?_); rintro e w2 ⟨rfl, hb⟩)
  go_ret
  exact ⟨rfl, hb⟩
set_option maxHeartbeats 1000000 in
theorem Try.Num_neg (n : Nat) (h1 : 1 ≤ n) (hn : n ≤ 9223372036854775808) (w : World) :
    Calls Try.prog 26 #[.int .i64 (-(n : Int))] w fun e w' => e = .returned (.string ⟨(Lib.itoa (-(n : Int))).toArray⟩) ∧ Below w.heap.size w w' := by
  have hlen : (Lib.decDigits n).length ≤ 20 := by rw [Lib.decDigits_length]; exact Lib.nDigits_le20 n (by omega)
  have HI : Hid (Lib.itoa (-(n : Int)) = 45 :: Lib.decDigits n) := Lib.itoa_neg n (by omega)
  have HD : Hid (∀ W, Calls Try.prog 45 #[.int .u64 (n : Int)] W fun e w' => e = .returned (.string ⟨(Lib.decDigits n).toArray⟩) ∧ Below W.heap.size W w') := fun W => Try.digits_any n (by omega) W
  generalize Lib.decDigits n = D at hlen HI HD
  have hneg : ¬ (0 : Int) ≤ -(n : Int) := by omega
  have e1 : IntKind.i64.wrap (-(n : Int) + 1) = -(n : Int) + 1 := by rw [IntKind.wrap_i64]; omega
  have e2 : IntKind.i64.wrap (-(-(n : Int) + 1)) = (n : Int) - 1 := by rw [IntKind.wrap_i64]; omega
  go_enter Try.func26, Try.ntmps26
  go_wp2_with (go_at_call 45; (with_reducible refine (HD.out _).mono ?_); rintro e w2 ⟨rfl, hb⟩)
  go_ret
  refine ⟨?_, hb⟩
  rw [HI.out]
  exact congrArg (fun x => Ending.returned (.string x)) (cat [45] D)
theorem Try.Num_any (n : Int) (h0 : -9223372036854775808 ≤ n) (h1 : n ≤ 9223372036854775807) (w : World) :
    Calls Try.prog 26 #[.int .i64 n] w fun e w' => e = .returned (.string ⟨(Lib.itoa n).toArray⟩) ∧ Below w.heap.size w w' := by
  by_cases h : n < 0
  · obtain ⟨m, rfl⟩ : ∃ m : Nat, n = -(m : Int) := ⟨(-n).toNat, by omega⟩
    exact Try.Num_neg m (by omega) (by omega) w
  · obtain ⟨m, rfl⟩ : ∃ m : Nat, n = (m : Int) := ⟨n.toNat, by omega⟩
    exact Try.Num_pos m (by omega) w
#print axioms Try.Num_any
end Go.Proofs
/- Rows of words in memory, for the landed package: words from a place of a row on, lists of such, texts. No program's functions. -/
namespace Go
open Go.RowKit
/-- A box of another type stands where an own row is appended to. -/
theorem box_grown_s {W W' : World} {B base size n : Nat} {cs : Array Value} {t e : TypeId} {v : Value} {xs : List Value} (h : W.heap[B]? = some (.cells cs t)) (hr : W.ownsRow base e size v n xs) (hne : t ≠ e) (hg : W.grownBy W' v.ownBlock) : W'.heap[B]? = some (.cells cs t) := by
  have hlt := (Array.getElem?_eq_some_iff.1 h).1
  rw [hg.block B hlt fun e2 => ?_]
  · exact h
  · rcases hr.2 with ⟨rfl, _⟩ | ⟨g, cap, cur, rfl, _, hg1, _⟩
    · cases e2
    · obtain rfl : B = g := Option.some.inj e2
      rw [h] at hg1
      injection (Option.some.inj hg1) with _ e3
      exact hne e3
/-- A box that lies below an own row's base stands where the row is appended to. -/
theorem box_below_s {W W' : World} {B base size n : Nat} {o : Obj} {e : TypeId} {v : Value} {xs : List Value} (h : W.heap[B]? = some o) (hr : W.ownsRow base e size v n xs) (hb : B < base) (hg : W.grownBy W' v.ownBlock) : W'.heap[B]? = some o := by
  have hlt := (Array.getElem?_eq_some_iff.1 h).1
  rw [hg.block B hlt fun e2 => by have := (hr.lt _ e2.symm).1; omega]
  exact h
/-- A cell out of a box. -/
theorem box_cell_s {W : World} {B : Nat} {cs : Array Value} {t : TypeId} (h : W.heap[B]? = some (.cells cs t)) (j : Nat) : W.cell? ⟨B, j, none⟩ = cs[j]? := by
  unfold World.cell?; rw [h]; rfl
end Go
namespace Go.Proofs
open Go.RowKit Go.Shelf Go.Cur Go.Wds Go.Sheet
/-- A line's three cells in an own row of lines. -/
theorem line_cells3 {W : World} {base g n c : Nat} {e : TypeId} {L : List (Nat × Nat × Nat)} (h : W.ownsRow base e 3 (.slice (some ⟨g, 0, none⟩) n c) L.length (lineCells L)) {k a b d : Nat} (hk : L[k]? = some (a, b, d)) :
    W.cell? ⟨g, k * 3, none⟩ = some (.int .i64 (a : Nat)) ∧ W.cell? ⟨g, k * 3 + 1, none⟩ = some (.int .i64 (b : Nat)) ∧ W.cell? ⟨g, k * 3 + 2, none⟩ = some (.int .i64 (d : Nat)) := by
  have hf := owns_flat (f := fun p : Nat × Nat × Nat => [Value.int .i64 (p.1 : Int), .int .i64 (p.2.1 : Int), .int .i64 (p.2.2 : Int)]) (fun _ => rfl) h
  rcases hf with ⟨rfl, h0⟩ | ⟨g', cap, h1, _, _, _, h5⟩
  · simp at hk
  · cases h1
    have k0 := h5 k (a, b, d) 0 _ hk rfl
    have k1 := h5 k (a, b, d) 1 _ hk rfl
    have k2 := h5 k (a, b, d) 2 _ hk rfl
    rw [Nat.zero_add] at k0 k1 k2
    exact ⟨k0, k1, k2⟩
/-- A slice that reads as these words, from whatever place of its block on. -/
def HasWdsO (W : World) (v : Value) (ps : List (Nat × Nat)) : Prop :=
  ∃ (ao : Option Addr) (cap : Nat), v = .slice ao ps.length cap ∧ ∀ (i a b : Nat), ps[i]? = some (a, b) → ∃ g off, ao = some ⟨g, off, none⟩ ∧ g < W.heap.size ∧ W.cell? ⟨g, off + i * 2, none⟩ = some (.int .i64 (a : Nat)) ∧ W.cell? ⟨g, off + i * 2 + 1, none⟩ = some (.int .i64 (b : Nat))
theorem HasWdsO.later {W W' : World} {v : Value} {ps : List (Nat × Nat)} (h : HasWdsO W v ps) (hb : Below W.heap.size W W') : HasWdsO W' v ps := by
  obtain ⟨ao, cap, rfl, h1⟩ := h
  refine ⟨ao, cap, rfl, fun i a b hi => ?_⟩
  obtain ⟨g, off, e, h2, h3, h4⟩ := h1 i a b hi
  exact ⟨g, off, e, Nat.lt_of_lt_of_le h2 hb.size, (hb.cell (p := ⟨g, _, none⟩) h2).trans h3, (hb.cell (p := ⟨g, _, none⟩) h2).trans h4⟩
theorem HasWords.wdsO {W : World} {v : Value} {ps : List (Nat × Nat)} (h : HasWords W v ps) : HasWdsO W v ps := by
  obtain ⟨ao, cap, rfl, h1, _⟩ := h
  refine ⟨ao, cap, rfl, fun i a b hi => ?_⟩
  obtain ⟨g, e, h2, h3, h4⟩ := h1 i a b hi
  exact ⟨g, 0, e, h2, by rw [Nat.zero_add]; exact h3, by rw [Nat.zero_add]; exact h4⟩
/-- A slice of words, cut. -/
theorem wds_sliced {W : World} {ao : Option Addr} {n cap lo hi : Nat} {ps : List (Nat × Nat)} (h : HasWords W (.slice ao n cap) ps) (hlo : lo ≤ hi) (hhi : hi ≤ n) : HasWdsO W (sliced ao lo hi cap 2) ((ps.take hi).drop lo) := by
  obtain ⟨a1, c1, e, h1, hc⟩ := h
  cases e
  have hl : ((ps.take hi).drop lo).length = hi - lo := by rw [List.length_drop, List.length_take]; omega
  unfold sliced
  rw [← hl]
  refine ⟨_, _, rfl, fun i a b hi' => ?_⟩
  have hlt : i < hi - lo := by rw [← hl]; exact (List.getElem?_eq_some_iff.1 hi').1
  rw [List.getElem?_drop, List.getElem?_take_of_lt (by omega)] at hi'
  obtain ⟨g, e, h2, h3, h4⟩ := h1 (lo + i) a b hi'
  subst e
  rw [if_neg (by omega)]
  refine ⟨g, lo * 2, ?_, h2, ?_, ?_⟩
  · rw [Option.map_some, Addr.add_lit, Nat.zero_add]
  · rw [show lo * 2 + i * 2 = (lo + i) * 2 by omega]; exact h3
  · rw [show lo * 2 + i * 2 = (lo + i) * 2 by omega]; exact h4
theorem wds_sliced_l {W : World} {ao : Option Addr} {cap lo : Nat} {ps : List (Nat × Nat)} (h : HasWords W (.slice ao ps.length cap) ps) (hlo : lo ≤ ps.length) : HasWdsO W (sliced ao lo ps.length cap 2) (ps.drop lo) := by
  have := wds_sliced h hlo (Nat.le_refl _)
  rwa [List.take_length] at this
theorem wds_sliced_h {W : World} {ao : Option Addr} {n cap hi : Nat} {ps : List (Nat × Nat)} (h : HasWords W (.slice ao n cap) ps) (hhi : hi ≤ n) : HasWdsO W (sliced ao 0 hi cap 2) (ps.take hi) :=
  wds_sliced h (Nat.zero_le _) hhi
/-- A slice that reads as these lists of words. -/
def HasLsts (W : World) (v : Value) (l : List (List (Nat × Nat))) : Prop :=
  ∃ (ao : Option Addr) (cap : Nat), v = .slice ao l.length cap ∧ ∀ (i : Nat) (ps : List (Nat × Nat)), l[i]? = some ps → ∃ g u, ao = some ⟨g, 0, none⟩ ∧ g < W.heap.size ∧ W.cell? ⟨g, i, none⟩ = some u ∧ HasWdsO W u ps
theorem HasLsts.later {W W' : World} {v : Value} {l : List (List (Nat × Nat))} (h : HasLsts W v l) (hb : Below W.heap.size W W') : HasLsts W' v l := by
  obtain ⟨ao, cap, rfl, h1⟩ := h
  refine ⟨ao, cap, rfl, fun i ps hi => ?_⟩
  obtain ⟨g, u, e, h2, h3, h4⟩ := h1 i ps hi
  exact ⟨g, u, e, Nat.lt_of_lt_of_le h2 hb.size, (hb.cell (p := ⟨g, _, none⟩) h2).trans h3, h4.later hb⟩
end Go.Proofs
/- The landed Rows of layer 13. Conditions: a text of at most a million bytes. -/
namespace Go.Proofs
open Go.RowKit Go.Shelf Go.Cur Go.Wds Go.Sheet
attribute [local go_sem] Oper.semAt_some
theorem Try.info32 : (Try.prog.info? 32).map (fun i => (i.zero, i.size, i.bytes)) = some (some (.agg #[.int .i64 0, .slice none 0 0]), 2, 32) := by kernel_rfl
/-- Lines, and the rows so far. -/
structure PrS (w : World) (s : ByteArray) (n : Nat) (lv : Value) (o : Value) (us : List (Nat × Value)) (mm : List Rw) (W : World) : Prop where
  below : Below w.heap.size w W
  lines : W.ownsRow w.heap.size 71 3 lv n (lineCells (rowsOf s.data.toList))
  out : RowsR w.heap.size 32 W o us mm
theorem PrS.next {w W W' : World} {s : ByteArray} {n : Nat} {lv o : Value} {us : List (Nat × Value)} {mm : List Rw} (h : PrS w s n lv o us mm W) (hb : Below W.heap.size W W') : PrS w s n lv o us mm W' :=
  ⟨h.below.trans (hb.mono h.below.size), ownsRow_below h.lines hb (Nat.le_refl _), h.out.next hb⟩
theorem PrS.grow {w W W' : World} {s : ByteArray} {n : Nat} {lv o o' u : Value} {us : List (Nat × Value)} {mm : List Rw} {p : Rw} (h : PrS w s n lv o us mm W) (hu : HasWords W u p.2) (hg : W.grownBy W' o.ownBlock) (hr : W'.ownsRow w.heap.size 32 2 o' (us.length + 1) (us.flatMap rwC ++ rwC (p.1, u))) : PrS w s n lv o' (us ++ [(p.1, u)]) (mm ++ [p]) W' :=
  ⟨below_append_s h.below h.below.size h.out.row hg, owns_tag h.lines h.out.row (by decide) hg, h.out.grow hu hg hr⟩
set_option maxRecDepth 100000 in
set_option maxHeartbeats 4000000 in
theorem Try.pSheetRows_calls (s : ByteArray) (k0 : Int) (w : World) (hs : s.size ≤ 1000000) :
    Calls Try.prog 9 #[.string s, .int .i64 k0] w fun e w' => ∃ v, e = .returned v ∧ HasRows w' v (rowsE s k0) ∧ Below w.heap.size w w' := by
  obtain ⟨i0, hio, hz0, hz1, hz2⟩ := info_parts Try.info32
  have HI := Lib.hid hio
  have HLN : Hid ((rowsOf s.data.toList).length ≤ 1000001) := Nat.le_trans (List.length_filter_le _ _) (Nat.le_trans (lines_len s) (by omega))
  have HLC := Lib.hid fun W => Try.Rows_calls s W hs
  have HRE : Hid (∀ i p, (rowsOf s.data.toList)[i]? = some p → (((rowsOf s.data.toList).take (i + 1)).filter (fromB k0)).map (rowW s) = (((rowsOf s.data.toList).take i).filter (fromB k0)).map (rowW s) ++ (if fromB k0 p = true then [rowW s p] else [])) := fun i p h => rowsE_step h
  have HBD : Hid (∀ i a b d, (rowsOf s.data.toList)[i]? = some (a, b, d) → a ≤ b ∧ b ≤ s.size) := fun i a b d h => by
    have hm := List.mem_filter.1 (List.mem_of_getElem? h)
    obtain ⟨j, hj⟩ := List.getElem?_of_mem hm.1
    have := lines_get hj
    exact ⟨this.1, by simpa using this.2.1⟩
  clear hio
  go_enter Try.func9, Try.ntmps9
  go_wp2_with (go_at_call 27; (with_reducible refine (HLC.out _).mono ?_); rintro e w1 ⟨lv, rfl, hl1, hb1⟩; have HS0 : Hid (PrS w s (rowsOf s.data.toList).length lv (.slice none 0 0) [] [] w1) := ⟨hb1, hl1, RowsR.nil _ _ _⟩; obtain ⟨al, cl, rfl⟩ := owns_slice_s hl1; clear hb1 hl1)
  generalize hL : (rowsOf s.data.toList).length = L at *
  have HLL := Lib.hid hL
  clear hL
  go_loopw [5, 11] (fun o i wr => ∃ (k : Nat) (us : List (Nat × Value)), k ≤ L ∧ i = .int .i64 (k : Int) ∧ PrS w s L (.slice al L cl) o us ((((rowsOf s.data.toList).take k).filter (fromB k0)).map (rowW s)) wr) (fun _ i _ => L - (intOf i).toNat)
  case atStart => exact ⟨0, [], Nat.zero_le _, rfl, HS0.out⟩
  case round =>
    obtain ⟨k, us, hk, rfl, hS⟩ := hrel
    have HS := Lib.hid hS
    clear hS HS0
    by_cases hlt : k < L
    · obtain ⟨⟨a, b, d⟩, hp⟩ : ∃ p, (rowsOf s.data.toList)[k]? = some p := ⟨_, List.getElem?_eq_getElem (by rw [HLL.out]; exact hlt)⟩
      have hln := HS.out.lines
      obtain ⟨g, rfl⟩ : ∃ g, al = some ⟨g, 0, none⟩ := by
        rcases hln.2 with ⟨h0, h1⟩ | ⟨g, cap, cur, h0, _⟩
        · omega
        · cases h0; exact ⟨g, rfl⟩
      have hLL := HLL.out
      obtain ⟨x0, x1, x2⟩ := line_cells3 (by rw [hLL]; exact hln) hp
      have HR := Lib.hid (HRE.out k _ hp)
      obtain ⟨hab, hbs⟩ := HBD.out k a b d hp
      have hki : (k : Int) < (L : Int) := by omega
      have hkb : k ≤ 1000001 := Nat.le_trans hk HLN.out
      have HS2 : Hid (PrS w s L (.slice (some ⟨g, 0, none⟩) L cl) u5 us ((((rowsOf s.data.toList).take k).filter (fromB k0)).map (rowW s)) (wr.alloc (.cells #[.int .i64 (a : Nat), .int .i64 (b : Nat), .int .i64 (d : Nat)] 71))) := HS.out.next (fbelow_box_s _ _)
      have hus := HS.out.out.vals.1
      have hul : us.length ≤ 1000001 := by
        rw [hus, List.length_map]
        exact Nat.le_trans (List.length_filter_le _ _) (Nat.le_trans (by rw [List.length_take]; omega) HLN.out)
      have hml : us.length + 1 ≤ maxLen := by unfold maxLen; omega
      have hml2 : (us.length + 1) * 32 ≤ 140737488355328 := by omega
      clear hp hus hln hLL
      by_cases hq : k0 ≤ (a : Int)
      · have hf : fromB k0 (a, b, d) = true := decide_eq_true hq
        rw [hf, if_pos rfl] at HR
        have HF : Hid (∀ W, Calls Try.prog 28 #[.string s, .int .i64 (a : Nat), .int .i64 (b : Nat)] W fun e w' => ∃ v, e = .returned v ∧ HasWords w' v (rowW s (a, b, d)).2 ∧ Below W.heap.size W w') := fun W => by
          have := Try.Fields_calls s (a : Nat) (b : Nat) W (by omega)
          unfold fieldsI at this
          rw [inB_nat hab hbs, if_pos rfl] at this
          exact this
        have HRW : Hid ((rowW s (a, b, d)).1 = a) := rfl
        generalize rowW s (a, b, d) = p at *
        obtain ⟨pa, P0⟩ := p
        obtain rfl : pa = a := HRW.out
        clear hf hul
        go_upto_region 6 with (fail)
        have hBX := World.alloc_heap_new wr (.cells #[.int .i64 (pa : Nat), .int .i64 (b : Nat), .int .i64 (d : Nat)] 71)
        obtain ⟨B, hB⟩ : ∃ B, wr.heap.size = B := ⟨_, rfl⟩
        generalize hV : wr.alloc (.cells #[.int .i64 (pa : Nat), .int .i64 (b : Nat), .int .i64 (d : Nat)] 71) = V at *
        rw [hB] at hBX ⊢
        clear hV hB HS
        go_upto_region 6 with (fail)
        have N0 := (HS2.out.next (below_drew_s (Below.refl _ _)))
        have n0 : V.drew.heap[B]? = _ := hBX
        refine wp_region_held_drew (S := fun V => V.heap[B]? = some (.cells #[.int .i64 (pa : Nat), .int .i64 (b : Nat), .int .i64 (d : Nat)] 71)) (by kernel_rfl) (n0) (fun hHeld0 => ?_)
        clear hHeld0
        generalize V.drew = V0 at *
        refine wpAnyH_take (i := 0) (v := ?_) rfl (by kernel_rfl) (by kernel_rfl) (by kernel_rfl) (fun _ _ _ h => h) (Or.inl ⟨by kernel_rfl, ?_⟩) (n0) ?_
        rotate_left
        · (intro w0 hSw; (try dsimp only at hSw); have y0 := box_cell_s hSw 0; have y1 := box_cell_s hSw 1; have y2 := box_cell_s hSw 2; simp only [List.getElem?_toArray, List.getElem?_cons_zero, List.getElem?_cons_succ] at y0 y1 y2; go_simp; try with_reducible rfl)
        try dsimp only [List.getElem_toArray, List.getElem_cons_succ, List.getElem_cons_zero, Act.put]
        try simp only [List.setIfInBounds_toArray, List.set_cons_zero, List.set_cons_succ]
        refine wpAnyH_take (i := 1) (v := ?_) rfl (by kernel_rfl) (by kernel_rfl) (by kernel_rfl) (fun _ _ _ h => h) (Or.inl ⟨by kernel_rfl, ?_⟩) (n0) ?_
        rotate_left
        · (intro w0 hSw; (try dsimp only at hSw); have y0 := box_cell_s hSw 0; have y1 := box_cell_s hSw 1; have y2 := box_cell_s hSw 2; simp only [List.getElem?_toArray, List.getElem?_cons_zero, List.getElem?_cons_succ] at y0 y1 y2; go_simp; try with_reducible rfl)
        try dsimp only [List.getElem_toArray, List.getElem_cons_succ, List.getElem_cons_zero, Act.put]
        try simp only [List.setIfInBounds_toArray, List.set_cons_zero, List.set_cons_succ]
        refine wpAnyH_take (i := 2) (v := ?_) rfl (by kernel_rfl) (by kernel_rfl) (by kernel_rfl) (fun _ _ _ h => h) (Or.inl ⟨by kernel_rfl, ?_⟩) (n0) ?_
        rotate_left
        · (intro w0 hSw; (try dsimp only at hSw); have y0 := box_cell_s hSw 0; have y1 := box_cell_s hSw 1; have y2 := box_cell_s hSw 2; simp only [List.getElem?_toArray, List.getElem?_cons_zero, List.getElem?_cons_succ] at y0 y1 y2; go_simp; try with_reducible rfl)
        try dsimp only [List.getElem_toArray, List.getElem_cons_succ, List.getElem_cons_zero, Act.put]
        try simp only [List.setIfInBounds_toArray, List.set_cons_zero, List.set_cons_succ]
        refine wpAnyH_take (i := 3) (v := ?_) rfl (by kernel_rfl) (by kernel_rfl) (by kernel_rfl) (fun _ _ _ h => h) (Or.inl ⟨by kernel_rfl, ?_⟩) (n0) ?_
        rotate_left
        · (intro w0 hSw; (try dsimp only at hSw); have y0 := box_cell_s hSw 0; have y1 := box_cell_s hSw 1; have y2 := box_cell_s hSw 2; simp only [List.getElem?_toArray, List.getElem?_cons_zero, List.getElem?_cons_succ] at y0 y1 y2; go_simp; try with_reducible rfl)
        try dsimp only [List.getElem_toArray, List.getElem_cons_succ, List.getElem_cons_zero, Act.put]
        try simp only [List.setIfInBounds_toArray, List.set_cons_zero, List.set_cons_succ]
        refine wpAnyH_take (i := 4) (v := ?_) rfl (by kernel_rfl) (by kernel_rfl) (by kernel_rfl) (fun _ _ _ h => h) (Or.inl ⟨by kernel_rfl, ?_⟩) (n0) ?_
        rotate_left
        · (intro w0 hSw; (try dsimp only at hSw); have y0 := box_cell_s hSw 0; have y1 := box_cell_s hSw 1; have y2 := box_cell_s hSw 2; simp only [List.getElem?_toArray, List.getElem?_cons_zero, List.getElem?_cons_succ] at y0 y1 y2; go_simp; try with_reducible rfl)
        try dsimp only [List.getElem_toArray, List.getElem_cons_succ, List.getElem_cons_zero, Act.put]
        try simp only [List.setIfInBounds_toArray, List.set_cons_zero, List.set_cons_succ]
        refine wpAnyH_take (i := 5) (v := ?_) rfl (by kernel_rfl) (by kernel_rfl) (by kernel_rfl) (fun _ _ _ h => h) (Or.inl ⟨by kernel_rfl, ?_⟩) (n0) ?_
        rotate_left
        · (intro w0 hSw; (try dsimp only at hSw); have y0 := box_cell_s hSw 0; have y1 := box_cell_s hSw 1; have y2 := box_cell_s hSw 2; simp only [List.getElem?_toArray, List.getElem?_cons_zero, List.getElem?_cons_succ] at y0 y1 y2; go_simp; try with_reducible rfl)
        try dsimp only [List.getElem_toArray, List.getElem_cons_succ, List.getElem_cons_zero, Act.put]
        try simp only [List.setIfInBounds_toArray, List.set_cons_zero, List.set_cons_succ]
        refine wpAnyH_take (i := 6) (v := ?_) rfl (by kernel_rfl) (by kernel_rfl) (by kernel_rfl) (fun _ _ _ h => h) (Or.inl ⟨by kernel_rfl, ?_⟩) (n0) ?_
        rotate_left
        · (intro w0 hSw; (try dsimp only at hSw); have y0 := box_cell_s hSw 0; have y1 := box_cell_s hSw 1; have y2 := box_cell_s hSw 2; simp only [List.getElem?_toArray, List.getElem?_cons_zero, List.getElem?_cons_succ] at y0 y1 y2; go_simp; try with_reducible rfl)
        try dsimp only [List.getElem_toArray, List.getElem_cons_succ, List.getElem_cons_zero, Act.put]
        try simp only [List.setIfInBounds_toArray, List.set_cons_zero, List.set_cons_succ]
        refine wpAnyH_take (i := 7) (v := ?_) rfl (by kernel_rfl) (by kernel_rfl) (by kernel_rfl) (fun _ _ _ h => h) (Or.inl ⟨by kernel_rfl, ?_⟩) (n0) ?_
        rotate_left
        · (intro w0 hSw; (try dsimp only at hSw); have y0 := box_cell_s hSw 0; have y1 := box_cell_s hSw 1; have y2 := box_cell_s hSw 2; simp only [List.getElem?_toArray, List.getElem?_cons_zero, List.getElem?_cons_succ] at y0 y1 y2; go_simp; try with_reducible rfl)
        try dsimp only [List.getElem_toArray, List.getElem_cons_succ, List.getElem_cons_zero, Act.put]
        try simp only [List.setIfInBounds_toArray, List.set_cons_zero, List.set_cons_succ]
        refine wpAnyH_ready (rs := [8]) (by kernel_rfl) (by simp) (AllReadyH.cons rfl (fun KK hKK => ?_) AllReadyH.nil)
        go_simp
        go_at_call 28
        (with_reducible refine (HF.out _).mono ?_)
        rintro e W17 ⟨v17, rfl, hv17, hb17⟩
        have N1 := N0.next hb17
        have n1 := (hb17.block _ (Array.getElem?_eq_some_iff.1 n0).1).trans n0
        have HV := Lib.hid hv17
        obtain ⟨av, cv, rfl, _⟩ := hv17
        refine hKK.out _ _ (n1) (fun _ => ?_)
        clear hKK KK
        try dsimp only [List.getElem_toArray, List.getElem_cons_succ, List.getElem_cons_zero, Act.put]
        try simp only [List.setIfInBounds_toArray, List.set_cons_zero, List.set_cons_succ]
        clear N0 n0 hb17
        refine wpAnyH_take (i := 9) (v := ?_) rfl (by kernel_rfl) (by kernel_rfl) (by kernel_rfl) (fun _ _ _ h => h) (Or.inl ⟨by kernel_rfl, ?_⟩) (n1) ?_
        rotate_left
        · (intro w0 hSw; (try dsimp only at hSw); have y0 := box_cell_s hSw 0; have y1 := box_cell_s hSw 1; have y2 := box_cell_s hSw 2; simp only [List.getElem?_toArray, List.getElem?_cons_zero, List.getElem?_cons_succ] at y0 y1 y2; go_simp; try with_reducible rfl)
        try dsimp only [List.getElem_toArray, List.getElem_cons_succ, List.getElem_cons_zero, Act.put]
        try simp only [List.setIfInBounds_toArray, List.set_cons_zero, List.set_cons_succ]
        refine wpAnyH_ready (rs := [10]) (by kernel_rfl) (by simp) (AllReadyH.cons rfl (fun KK hKK => ?_) AllReadyH.nil)
        go_simp
        have hbx := fbelow_box_s W17 (.cells #[.int .i64 (pa : Nat), .slice av P0.length cv] 32)
        have N2 := N1.next hbx
        have n2 := (hbx.block _ (Array.getElem?_eq_some_iff.1 n1).1).trans n1
        have HV2 := Lib.hid (HV.out.later hbx)
        clear hbx
        refine hKK.out _ _ (n2) (fun _ => ?_)
        clear hKK KK
        try dsimp only [List.getElem_toArray, List.getElem_cons_succ, List.getElem_cons_zero, Act.put]
        try simp only [List.setIfInBounds_toArray, List.set_cons_zero, List.set_cons_succ]
        clear N1 n1
        refine wpAnyH_ready (rs := [11]) (by kernel_rfl) (by simp) (AllReadyH.cons rfl (fun KK hKK => ?_) AllReadyH.nil)
        refine step_append_s rfl (.tmp 19) (.tmp 29) 23 rfl w.heap.size 32 i0 (.agg #[.int .i64 0, .slice none 0 0]) 2 32 Try.underlying23 HI.out hz0 hz1 hz2 rfl (by decide) u5 us.length (us.flatMap rwC) rfl N2.out.row ⟨W17.heap.size, 0, none⟩ 1 1 (rwC (pa, .slice av P0.length cv)) rfl rfl (fun j u h => cells_arr_s _ _ _ j u h) (by simp [Value.oneCell', rwC]) hml hml2 N2.below.size ?_
        intro v5 W20 hown hgrow
        have n3 := box_grown_s n2 N2.out.row (by decide) hgrow
        have N3 := N2.grow HV2.out hgrow hown
        obtain ⟨a5, c5, rfl⟩ := owns_slice_s hown
        clear hown hgrow
        refine hKK.out _ _ (n3) (fun _ => ?_)
        clear hKK KK
        try dsimp only [List.getElem_toArray, List.getElem_cons_succ, List.getElem_cons_zero, Act.put]
        try simp only [List.setIfInBounds_toArray, List.set_cons_zero, List.set_cons_succ]
        clear N2 n2
        refine wpAnyH_take (i := 12) (v := ?_) rfl (by kernel_rfl) (by kernel_rfl) (by kernel_rfl) (fun _ _ _ h => h) (Or.inl ⟨by kernel_rfl, ?_⟩) (n3) ?_
        rotate_left
        · (intro w0 hSw; (try dsimp only at hSw); have y0 := box_cell_s hSw 0; have y1 := box_cell_s hSw 1; have y2 := box_cell_s hSw 2; simp only [List.getElem?_toArray, List.getElem?_cons_zero, List.getElem?_cons_succ] at y0 y1 y2; go_simp; try with_reducible rfl)
        try dsimp only [List.getElem_toArray, List.getElem_cons_succ, List.getElem_cons_zero, Act.put]
        try simp only [List.setIfInBounds_toArray, List.set_cons_zero, List.set_cons_succ]
        refine wpAnyH_done (by kernel_rfl) ?_ _
        try dsimp only [List.getElem_toArray, List.getElem_cons_succ, List.getElem_cons_zero, Act.put]
        try simp only [List.setIfInBounds_toArray, List.set_cons_zero, List.set_cons_succ]
        go_wp2
        go_roundw
        case rel => exact ⟨k + 1, _, by omega, by go_num, by rw [HR.out]; exact N3⟩
        case measure => simp [intOf]; omega
      · have hf : fromB k0 (a, b, d) = false := decide_eq_false hq
        rw [hf, if_neg (by decide), List.append_nil] at HR
        clear hf hml hml2 hul
        go_wp2
        go_roundw
        case rel => exact ⟨k + 1, us, by omega, by go_num, by rw [HR.out]; exact HS2.out⟩
        case measure => simp [intOf]; omega
    · obtain rfl : k = L := by omega
      have hI : Hid (HasRows wr u5 (rowsE s k0)) := by
        have := rows_of HS.out.out
        rw [← HLL.out, List.take_length] at this
        exact this
      clear hlt hk
      go_wp2
      go_ret
      exact ⟨u5, rfl, hI.out, HS.out.below⟩
end Go.Proofs
/- The landed Title of layer 13. Conditions: a text of at most a thousand bytes, as many words at most. -/
namespace Go.Sheet
open Go.Cur Go.Wds Go.Proofs
theorem join_snoc (y x : List UInt8) (r : List (List UInt8)) (sep : List UInt8) : Lib.join (y :: r ++ [x]) sep = Lib.join (y :: r) sep ++ sep ++ x := by
  rw [List.cons_append, Lib.join_cons, Lib.join_cons]
  simp [Lib.joinTail]
theorem titleN_join (s : ByteArray) (ws : List (Nat × Nat)) : ∀ k, k ≤ ws.length → (titleN s ws k).data.toList = Lib.join ((ws.take k).map fun p => (wordT s p).data.toList) [32]
  | 0, _ => by rw [List.take_zero, List.map_nil, Lib.join_nil]; rfl
  | k + 1, hk => by
    obtain ⟨p, hp⟩ : ∃ p, ws[k]? = some p := ⟨_, List.getElem?_eq_getElem (by omega)⟩
    rw [Go.Wds.take_get hp, List.map_append, List.map_cons, List.map_nil]
    by_cases h0 : k = 0
    · subst h0
      rw [titleN_first s ws hp, ByteArray.data_append, List.take_zero, List.map_nil, List.nil_append, Lib.join_one]
      simp
    · rw [titleN_more s ws h0 hp, ByteArray.data_append, ByteArray.data_append, Array.toList_append, Array.toList_append, titleN_join s ws k (by omega)]
      obtain ⟨q, r, hr⟩ : ∃ q r, ws.take k = q :: r := by
        cases hq : ws.take k with
        | nil => have := congrArg List.length hq; rw [List.length_take, List.length_nil] at this; omega
        | cons q r => exact ⟨q, r, rfl⟩
      rw [hr, List.map_cons, join_snoc]
theorem titleN_arr (s : ByteArray) (ws : List (Nat × Nat)) {n : Nat} (hn : ws.length = n) : (⟨(Lib.join ((ws.map fun p => wordT s p).map (·.data.toList)) (⟨#[32]⟩ : ByteArray).data.toList).toArray⟩ : ByteArray) = titleN s ws n := by
  have h := titleN_join s ws n (by omega)
  rw [← hn, List.take_length] at h
  rw [List.map_map]
  show (⟨(Lib.join (ws.map fun p => (wordT s p).data.toList) [32]).toArray⟩ : ByteArray) = _
  rw [← h, ← hn]
end Go.Sheet
namespace Go.Proofs
open Go.RowKit Go.Shelf Go.Cur Go.Wds Go.Sheet
attribute [local go_sem] Oper.semAt_some
theorem Try.sinfo9 : (Try.prog.info? 9).map (fun i => (i.zero, i.size, i.bytes)) = some (some (.string ⟨#[]⟩), 1, 16) := by kernel_rfl
def strV (x : ByteArray) : Value := .string x
theorem strV_flat : ∀ l : List ByteArray, l.map strV = l.flatMap fun x => [strV x]
  | [] => rfl
  | x :: l => by rw [List.map_cons, strV_flat l]; rfl
theorem strs_cells {W : World} {base : Nat} {e : TypeId} {v : Value} {l : List ByteArray} (h : W.ownsRow base e 1 v l.length (l.map strV)) : (l = [] ∧ v = .slice none 0 0) ∨ ∃ g cap, v = .slice (some ⟨g, 0, none⟩) l.length cap ∧ l.length ≤ cap ∧ g < W.heap.size ∧ ∀ (j : Nat) x, l[j]? = some x → W.cell? ⟨g, 0 + j, none⟩ = some (.string x) := by
  rw [strV_flat l] at h
  rcases owns_flat (f := fun x => [strV x]) (fun _ => rfl) h with h | ⟨g, cap, h1, h2, _, h4, h5⟩
  · exact .inl h
  · exact .inr ⟨g, cap, h1, h2, h4, fun j x hj => by have := h5 j x 0 _ hj rfl; simpa [strV] using this⟩
/-- A row's struct in its box, and the texts so far. -/
structure PtS (w : World) (f : Nat) (v o : Value) (l : List ByteArray) (W : World) : Prop where
  below : Below w.heap.size w W
  box : W.heap[w.heap.size]? = some (.cells #[.int .i64 (f : Nat), v] 32)
  row : W.ownsRow (w.heap.size + 1) 9 1 o l.length (l.map strV)
theorem PtS.lt {w W : World} {f : Nat} {v o : Value} {l : List ByteArray} (h : PtS w f v o l W) : w.heap.size + 1 ≤ W.heap.size := (Array.getElem?_eq_some_iff.1 h.box).1
theorem PtS.next {w W W' : World} {f : Nat} {v o : Value} {l : List ByteArray} (h : PtS w f v o l W) (hb : Below W.heap.size W W') : PtS w f v o l W' := ⟨h.below.trans (hb.mono h.below.size), (hb.block _ (Array.getElem?_eq_some_iff.1 h.box).1).trans h.box, ownsRow_below h.row hb (Nat.le_refl _)⟩
theorem PtS.new (w : World) (f : Nat) (v : Value) : PtS w f v (.slice none 0 0) [] (w.alloc (.cells #[.int .i64 (f : Nat), v] 32)) := ⟨fbelow_box_s _ _, World.alloc_heap_new _ _, ⟨rfl, .inl ⟨rfl, rfl⟩⟩⟩
theorem PtS.grow {w W W' : World} {f : Nat} {v o o' : Value} {l l' : List ByteArray} (h : PtS w f v o l W) (hg : W.grownBy W' o.ownBlock) (hr : W'.ownsRow (w.heap.size + 1) 9 1 o' l'.length (l'.map strV)) : PtS w f v o' l' W' := by
  have hlt := h.lt
  exact ⟨h.below.grown hg (by omega) (fun j e => by have := (h.row.lt j e).1; omega), box_below_s h.box h.row (Nat.lt_succ_self _) hg, hr⟩
set_option maxRecDepth 100000 in
set_option maxHeartbeats 4000000 in
theorem Try.pTitle_calls (s t : ByteArray) (f : Nat) (ws : List (Nat × Nat)) (v : Value) (w : World) (hs : s.size ≤ 1000) (hl : ws.length ≤ 1000) (hv : HasWords w v ws) :
    Calls Try.prog 13 #[.string s, .agg #[.int .i64 (f : Nat), v], .string t] w fun e w' => e = .returned (.bool (titleB s ws t)) ∧ Below w.heap.size w w' := by
  obtain ⟨i0, hio, hz0, hz1, hz2⟩ := info_parts Try.sinfo9
  have HI := Lib.hid hio
  obtain ⟨av, cv, rfl, hw, _⟩ := hv
  have HW := Lib.hid hw
  have HTX : Hid (∀ (a b : Nat) (W : World), Calls Try.prog 32 #[.string s, .agg #[.int .i64 (a : Nat), .int .i64 (b : Nat)]] W fun e w' => e = .returned (.string (wordT s (a, b))) ∧ Below W.heap.size W w') := fun a b W => Try.Text_calls s (a : Nat) (b : Nat) W
  have HTK : Hid (∀ k p, ws[k]? = some p → (ws.take (k + 1)).map (fun p => wordT s p) = (ws.take k).map (fun p => wordT s p) ++ [wordT s p]) := fun k p h => by rw [Go.Wds.take_get h, List.map_append]; rfl
  have HTB : Hid (titleB s ws t = ((titleN s ws ws.length).toList == t.toList)) := rfl
  have HSZ := Lib.hid (titleN_size s ws hs ws.length)
  have HTA : Hid (ws.take ws.length = ws) := List.take_length
  obtain ⟨n, hn⟩ : ∃ n, ws.length = n := ⟨_, rfl⟩
  have HN := Lib.hid hn
  have HAR := Lib.hid (titleN_arr s ws hn)
  rw [hn] at hl HTB HSZ HTA ⊢
  generalize titleB s ws t = tb at *
  have HS0 := Lib.hid (PtS.new w f (.slice av n cv))
  clear hw hn hio
  go_enter Try.func13, Try.ntmps13
  go_wp2
  go_loopw [7, 13] (fun o i wr => ∃ k : Nat, k ≤ n ∧ i = .int .i64 (k : Int) ∧ PtS w f (.slice av n cv) o ((ws.take k).map fun p => wordT s p) wr) (fun _ i _ => n - (intOf i).toNat)
  case atStart => exact ⟨0, Nat.zero_le _, rfl, HS0.out⟩
  case round =>
    obtain ⟨k, hk, rfl, hS⟩ := hrel
    have HS := Lib.hid hS
    have hB := hS.below
    clear HS0 hS
    by_cases hlt : k < n
    · obtain ⟨⟨a, b⟩, hp⟩ : ∃ q, ws[k]? = some q := ⟨_, List.getElem?_eq_getElem (by have := HN.out; omega)⟩
      obtain ⟨g, rfl, hg, e0, e1⟩ := HW.out k a b hp
      replace e0 := (hB.cell (p := ⟨g, _, none⟩) hg).trans e0
      replace e1 := (hB.cell (p := ⟨g, _, none⟩) hg).trans e1
      have hki : (k : Int) < (n : Int) := by omega
      have HX := Lib.hid fun W => HTX.out a b W
      have HT := Lib.hid (HTK.out k _ hp)
      have hlen : ((ws.take k).map fun p => wordT s p).length = k := by rw [List.length_map, List.length_take]; have := HN.out; omega
      have HLN := Lib.hid hlen
      generalize wordT s (a, b) = T at *
      generalize ((ws.take k).map fun p => wordT s p) = S at *
      have hml : k + 1 ≤ maxLen := by unfold maxLen; omega
      have hml2 : (k + 1) * 16 ≤ 140737488355328 := by omega
      have HGO : Hid (∀ W, PtS w f (.slice (some ⟨g, 0, none⟩) n cv) u7 S W → ((W.alloc (.cells #[.string T] 9)).ownsRow (w.heap.size + 1) 9 1 u7 k (S.map strV)) ∧ w.heap.size + 1 ≤ W.heap.size ∧ (∀ v' w5, w5.ownsRow (w.heap.size + 1) 9 1 v' (k + 1) (S.map strV ++ [.string T]) → (W.alloc (.cells #[.string T] 9)).grownBy w5 u7.ownBlock → PtS w f (.slice (some ⟨g, 0, none⟩) n cv) v' (S ++ [T]) w5)) := fun W h =>
        ⟨by have e := (h.next (fbelow_box_s W (.cells #[.string T] 9))).row; rw [HLN.out] at e; exact e, h.lt, fun v' w5 h1 h2 => (h.next (fbelow_box_s W _)).grow h2 (by rw [List.map_append, List.length_append, HLN.out]; exact h1)⟩
      have HSA := Lib.hid (HS.out.next (fbelow_box_s wr (.cells #[.int .i64 (a : Nat), .int .i64 (b : Nat)] 80)))
      clear hp hlen hB
      go_wp2_with (first
        | (go_at_call 32; (with_reducible refine (HX.out _).mono ?_); rintro e w1 ⟨rfl, hb1⟩; have HS1 := Lib.hid (HSA.out.next hb1); obtain ⟨g1, g2, g3⟩ := HGO.out _ HS1.out; have HG1 := Lib.hid g1; have HG3 := Lib.hid g3; clear hb1 g1 g3)
        | (at_builtin; refine wpList_append_own _ rfl _ _ 81 rfl (w.heap.size + 1) 9 i0 (.string ⟨#[]⟩) 1 16 Try.underlying81 HI.out hz0 hz1 hz2 rfl (by decide) u7 k (S.map strV) rfl HG1.out ⟨w1.heap.size, 0, none⟩ 1 1 [.string T] rfl rfl (fun j u h => cells_arr_s _ _ _ j u h) (by simp [Value.oneCell']) hml hml2 (by simp; omega) ?_; intro v' w5 hown' hgrow _; have HS7 := Lib.hid (HG3.out v' w5 hown' hgrow); clear hown' hgrow))
      go_roundw
      case rel => exact ⟨k + 1, by omega, by go_num, by rw [HT.out]; exact HS7.out⟩
      case measure => simp [intOf]; omega
    · obtain rfl : k = n := by omega
      have hrow := HS.out.row
      rw [HTA.out] at hrow
      have HJ : Hid (∃ c a, u7 = .slice a k c ∧ Calls Try.prog 33 #[.slice a k c, .string ⟨#[32]⟩] wr fun e w' => e = .returned (.string (titleN s ws k)) ∧ Below wr.heap.size wr w') := by
        have hkl := HN.out
        rcases strs_cells hrow with ⟨h0, h1⟩ | ⟨g, cap, h1, h2, h3, h4⟩
        · have hk0 : k = 0 := by rw [← hkl, ← List.length_map (f := fun p => wordT s p), h0]; rfl
          subst hk0
          exact ⟨_, _, h1, (Try.strings_Join_none _ _ _ wr).mono fun e w' ⟨e1, e2⟩ => ⟨e1, e2 ▸ Below.refl _ _⟩⟩
        · rw [List.length_map, hkl] at h1 h2
          refine ⟨_, _, h1, ?_⟩
          have hj := Try.strings_Join g 0 cap (ws.map fun p => wordT s p) ⟨#[32]⟩ wr h4 h3 (by rw [List.length_map, hkl]; omega) (by rw [List.length_map, hkl]; exact h2) (by
            have e := congrArg (fun b => b.data.toList.length) HAR.out
            have := HSZ.out
            have e2 : (titleN s ws k).data.toList.length = (titleN s ws k).size := rfl
            show (Lib.join _ _).length ≤ _
            exact Nat.le_trans (Nat.le_of_eq (e.trans e2)) (by omega))
          rw [HAR.out, List.length_map, hkl] at hj
          exact hj
      obtain ⟨c, a, rfl, hj⟩ := HJ.out
      have HJ2 := Lib.hid hj
      clear hlt hk hrow hj HJ
      go_wp2_with (go_at_call 33; (with_reducible refine HJ2.out.mono ?_); rintro e w2 ⟨rfl, hb2⟩)
      go_ret
      exact ⟨cret_is HTB.out.symm, hB.trans (hb2.mono hB.size)⟩
end Go.Proofs
/- The landed take of layer 13 (the words of lists, by a reader that a caller gives). Conditions: a text of at most a million bytes, as many words and lists at most. -/
namespace Go.Sheet
open Go.Cur Go.Wds Go.Proofs Go.Fx
theorem takeW_at {α : Type} {rd : Nat × Nat → α × Int} {A B l : List (Nat × Nat)} {w : Nat × Nat} (h : l = A ++ w :: B) (ha : ∀ v ∈ A, (rd v).2 = 0) (hb : (rd w).2 ≠ 0) : takeW rd l = ([], w.1, (rd w).2) := by
  subst h
  exact takeW_bad (k := A.length) (by simp) (by rw [List.take_left']; exact ha; rfl) hb
theorem tkflat_take {L : List (List (Nat × Nat))} {k : Nat} {P : List (Nat × Nat)} (h : L[k]? = some P) : (L.take (k + 1)).flatten = (L.take k).flatten ++ P := by
  rw [Go.Wds.take_get h, List.flatten_append]; simp
theorem tkflat_split {L : List (List (Nat × Nat))} {k j : Nat} {P : List (Nat × Nat)} {w : Nat × Nat} (h : L[k]? = some P) (hj : P[j]? = some w) : L.flatten = ((L.take k).flatten ++ P.take j) ++ w :: (P.drop (j + 1) ++ (L.drop (k + 1)).flatten) := by
  have e1 : L = L.take k ++ P :: L.drop (k + 1) := by
    obtain ⟨hk, rfl⟩ := List.getElem?_eq_some_iff.1 h
    rw [← List.drop_eq_getElem_cons hk, List.take_append_drop]
  have e2 : P = P.take j ++ w :: P.drop (j + 1) := by
    obtain ⟨hk, rfl⟩ := List.getElem?_eq_some_iff.1 hj
    rw [← List.drop_eq_getElem_cons hk, List.take_append_drop]
  conv => lhs; rw [e1, List.flatten_append, List.flatten_cons, e2]
  simp
theorem tkok_snoc {α : Type} {rd : Nat × Nat → α × Int} {A P : List (Nat × Nat)} {j : Nat} {w : Nat × Nat} (h : P[j]? = some w) (ha : ∀ v ∈ A ++ P.take j, (rd v).2 = 0) (hb : (rd w).2 = 0) : ∀ v ∈ A ++ P.take (j + 1), (rd v).2 = 0 := by
  intro v hv
  rw [Go.Wds.take_get h, ← List.append_assoc, List.mem_append] at hv
  rcases hv with hv | hv
  · exact ha v hv
  · obtain rfl : v = w := by simpa using hv
    exact hb
theorem tkmap_snoc {α : Type} {f : Nat × Nat → α} {A P : List (Nat × Nat)} {j : Nat} {w : Nat × Nat} (h : P[j]? = some w) : (A ++ P.take (j + 1)).map f = (A ++ P.take j).map f ++ [f w] := by
  rw [Go.Wds.take_get h]; simp
theorem tkflat_len {L : List (List (Nat × Nat))} {k j : Nat} {P : List (Nat × Nat)} {w : Nat × Nat} (h : L[k]? = some P) (hj : P[j]? = some w) : ((L.take k).flatten ++ P.take j).length + 1 ≤ L.flatten.length := by
  rw [tkflat_split h hj]
  simp only [List.length_append, List.length_cons]; omega
end Go.Sheet
namespace Go.Proofs
open Go.RowKit Go.Shelf Go.Cur Go.Wds Go.Sheet Go.Fx
attribute [local go_sem] Oper.semAt_some
theorem flS_nil (w : World) : FlS w (.slice none 0 0) [] (w.alloc (.cells #[.int .i64 0, .int .i64 0] 41)) := ⟨fbelow_box_s w _, World.alloc_heap_new _ _, ⟨rfl, .inl ⟨rfl, rfl⟩⟩⟩
theorem Try.pIntW (s : ByteArray) (w : Nat × Nat) (hs : s.size ≤ 1000000) (W : World) :
    Calls Try.prog 36 #[.string (wordT s w)] W fun e w' => e = .returned (.tuple #[.int .i64 (rdI s w).1, .int .i64 (rdI s w).2]) ∧ Below W.heap.size W w' :=
  Try.Int_any (wordT s w).data.toList (by have := wordT_size s w; have e : (wordT s w).data.toList.length = (wordT s w).size := rfl; omega) W
theorem Try.pReadW (s : ByteArray) (w : Nat × Nat) (hs : s.size ≤ 1000000) (W : World) :
    Calls Try.prog 39 #[.string (wordT s w)] W fun e w' => e = .returned (.tuple #[.agg #[.int .i64 (rdR s w).1.1, .int .i64 ((rdR s w).1.2 : Nat)], .int .i64 (rdR s w).2]) ∧ Below W.heap.size W w' :=
  Try.Read_any (wordT s w).data.toList (by have := wordT_size s w; have e : (wordT s w).data.toList.length = (wordT s w).size := rfl; omega) W
theorem Try.sinfo58 : (Try.prog.info? 58).map (fun i => (i.zero, i.size, i.bytes)) = some (some (.agg #[.int .i64 0, .int .i64 0]), 2, 16) := by kernel_rfl
/-- The box of what is wrong, and the numbers with places so far. -/
structure FnS (w : World) (o : Value) (l : List (Int × Nat)) (W : World) : Prop where
  below : Below w.heap.size w W
  res : W.heap[w.heap.size]? = some (.cells #[.int .i64 0, .int .i64 0] 41)
  row : W.ownsRow (w.heap.size + 1) 58 2 o l.length (l.flatMap nmC)
theorem FnS.lt {w W : World} {o : Value} {l : List (Int × Nat)} (h : FnS w o l W) : w.heap.size + 1 ≤ W.heap.size := (Array.getElem?_eq_some_iff.1 h.res).1
theorem FnS.next {w W W' : World} {o : Value} {l : List (Int × Nat)} (h : FnS w o l W) (hb : Below W.heap.size W W') : FnS w o l W' :=
  ⟨h.below.trans (hb.mono h.below.size), (hb.block _ h.lt).trans h.res, ownsRow_below h.row hb (Nat.le_refl _)⟩
theorem FnS.grow {w W W' : World} {o o' : Value} {l l' : List (Int × Nat)} (h : FnS w o l W) (hg : W.grownBy W' o.ownBlock) (hr : W'.ownsRow (w.heap.size + 1) 58 2 o' l'.length (l'.flatMap nmC)) : FnS w o' l' W' := by
  have hlt := h.lt
  exact ⟨h.below.grown hg (by omega) (fun j e => by have := (h.row.lt j e).1; omega), box_below_s h.res h.row (Nat.lt_succ_self _) hg, hr⟩
theorem FnS.cells {w W : World} {o : Value} {l : List (Int × Nat)} (h : FnS w o l W) : W.cell? ⟨w.heap.size, 0, none⟩ = some (.int .i64 0) ∧ W.cell? ⟨w.heap.size, 1, none⟩ = some (.int .i64 0) ∧ W.frozen? ⟨w.heap.size, 0, none⟩ = false ∧ W.frozen? ⟨w.heap.size, 1, none⟩ = false := by
  refine ⟨?_, ?_, ?_, ?_⟩
  · unfold World.cell?; rw [h.res]; rfl
  · unfold World.cell?; rw [h.res]; rfl
  · unfold World.frozen?; rw [h.res]; rfl
  · unfold World.frozen?; rw [h.res]; rfl
theorem fnS_nil (w : World) : FnS w (.slice none 0 0) [] (w.alloc (.cells #[.int .i64 0, .int .i64 0] 41)) := ⟨fbelow_box_s w _, World.alloc_heap_new _ _, ⟨rfl, .inl ⟨rfl, rfl⟩⟩⟩
theorem FnS.nms {w W : World} {o : Value} {l : List (Int × Nat)} (h : FnS w o l W) : HasNms ((W.setCell ⟨w.heap.size, 0, none⟩ (.int .i64 0)).setCell ⟨w.heap.size, 1, none⟩ (.int .i64 0)) o l :=
  nms_of_owns (own_set_s (own_set_s h.row (a := ⟨w.heap.size, 0, none⟩) (Nat.lt_succ_self _) (.int .i64 0)) (a := ⟨w.heap.size, 1, none⟩) (Nat.lt_succ_self _) (.int .i64 0))
set_option maxRecDepth 100000 in
set_option maxHeartbeats 8000000 in
theorem Try.takeI_calls (s : ByteArray) (L : List (List (Nat × Nat))) (v : Value) (w : World) (hs : s.size ≤ 1000000) (hl : L.length ≤ 1000000) (hf : L.flatten.length ≤ 2000000) (hv : HasLsts w v L) :
    Calls Try.prog 35 #[.string s, .func (.func 36) #[] #[], v] w fun e w' => ∃ u, e = .returned (.tuple #[u, .agg #[.int .i64 ((takeW (rdI s) L.flatten).2.1 : Nat), .int .i64 (takeW (rdI s) L.flatten).2.2]]) ∧ w'.ownsRow (w.heap.size + 1) 3 1 u (takeW (rdI s) L.flatten).1.length ((takeW (rdI s) L.flatten).1.map intV) ∧ Below w.heap.size w w' := by
  obtain ⟨i0, hio, hz0, hz1, hz2⟩ := info_parts Try.sinfo3
  have HI := Lib.hid hio
  obtain ⟨av, cv, rfl, hw⟩ := hv
  have HW := Lib.hid hw
  have HTX : Hid (∀ (a b : Nat) (W : World), Calls Try.prog 32 #[.string s, .agg #[.int .i64 (a : Nat), .int .i64 (b : Nat)]] W fun e w' => e = .returned (.string (wordT s (a, b))) ∧ Below W.heap.size W w') := fun a b W => Try.Text_calls s (a : Nat) (b : Nat) W
  have HRI := Lib.hid fun w W => Try.pIntW s w hs W
  have HBAD : Hid (∀ k j P w, L[k]? = some P → P[j]? = some w → (∀ v ∈ (L.take k).flatten ++ P.take j, (rdI s v).2 = 0) → (rdI s w).2 ≠ 0 → takeW (rdI s) L.flatten = ([], w.1, (rdI s w).2)) := fun k j P w h1 h2 => takeW_at (tkflat_split h1 h2)
  have HALL : Hid ((∀ v ∈ (L.take L.length).flatten, (rdI s v).2 = 0) → takeW (rdI s) L.flatten = ((L.take L.length).flatten.map fun w => (rdI s w).1, 0, 0)) := fun h => by rw [List.take_length] at h ⊢; exact takeW_all h
  have HOK : Hid (∀ (k j : Nat) (P : List (Nat × Nat)) (w : Nat × Nat), P[j]? = some w → (∀ v ∈ (L.take k).flatten ++ P.take j, (rdI s v).2 = 0) → (rdI s w).2 = 0 → ∀ v ∈ (L.take k).flatten ++ P.take (j + 1), (rdI s v).2 = 0) := fun k j P w => tkok_snoc
  have HMP : Hid (∀ (k j : Nat) (P : List (Nat × Nat)) (w : Nat × Nat), P[j]? = some w → ((L.take k).flatten ++ P.take (j + 1)).map (fun w => (rdI s w).1) = ((L.take k).flatten ++ P.take j).map (fun w => (rdI s w).1) ++ [(rdI s w).1]) := fun k j P w h => tkmap_snoc h
  have HFT : Hid (∀ k P, L[k]? = some P → (L.take (k + 1)).flatten = (L.take k).flatten ++ P) := fun k P h => tkflat_take h
  have HFL : Hid (∀ k j P w, L[k]? = some P → P[j]? = some w → ((L.take k).flatten ++ P.take j).length + 1 ≤ 2000000) := fun k j P w h1 h2 => Nat.le_trans (tkflat_len h1 h2) hf
  obtain ⟨n, hn⟩ : ∃ n, L.length = n := ⟨_, rfl⟩
  have HN := Lib.hid hn
  rw [hn] at hl HALL ⊢
  have HS0 := Lib.hid (flS_nil w)
  clear hw hn hio hf
  generalize takeW (rdI s) L.flatten = R at *
  go_enter Try.func35, Try.ntmps35
  go_wp2
  go_loopw [8, 17] (fun o i wr => ∃ k : Nat, k ≤ n ∧ i = .int .i64 (k : Int) ∧ Hid (∀ v ∈ (L.take k).flatten, (rdI s v).2 = 0) ∧ FlS w o ((L.take k).flatten.map fun w => (rdI s w).1) wr) (fun _ i _ => n - (intOf i).toNat)
  case atStart => exact ⟨0, Nat.zero_le _, rfl, Lib.hid (fun v hv => by simp at hv), HS0.out⟩
  case round =>
    obtain ⟨k, hk, rfl, hG, hS⟩ := hrel
    have HS := Lib.hid hS
    clear HS0 hS
    by_cases hlt : k < n
    · obtain ⟨P, hp⟩ : ∃ q, L[k]? = some q := ⟨_, List.getElem?_eq_getElem (by have := HN.out; omega)⟩
      obtain ⟨g, u, rfl, hg, e0, hP⟩ := HW.out k P hp
      obtain ⟨ap, cp, rfl, hP1⟩ := hP
      have HP1 := Lib.hid hP1
      replace e0 := (HS.out.below.cell (p := ⟨g, _, none⟩) hg).trans e0
      have hki : (k : Int) < (n : Int) := by omega
      obtain ⟨m, hm⟩ : ∃ m, P.length = m := ⟨_, rfl⟩
      have HM := Lib.hid hm
      rw [hm] at e0
      have HPA : Hid (P.take m = P) := by unfold Hid; rw [← hm]; exact List.take_length
      have HPK := Lib.hid hp
      have HJ0 : Hid ((∀ v ∈ (L.take k).flatten ++ P.take 0, (rdI s v).2 = 0) ∧ FlS w u8 (((L.take k).flatten ++ P.take 0).map fun w => (rdI s w).1) wr) := by
        unfold Hid; rw [List.take_zero, List.append_nil]; exact ⟨hG.out, HS.out⟩
      have hmm : m ≤ 2000000 := by
        rcases Nat.eq_zero_or_pos m with h | h
        · omega
        · obtain ⟨q, hq⟩ : ∃ q, P[m - 1]? = some q := ⟨_, List.getElem?_eq_getElem (by omega)⟩
          have := HFL.out k _ P q hp hq
          rw [List.length_append, List.length_take] at this
          omega
      clear hp hP1 hm hG HS
      go_wp2
      go_loopw [8, 23] (fun o i wr => ∃ j : Nat, j ≤ m ∧ i = .int .i64 (j : Int) ∧ Hid (∀ v ∈ (L.take k).flatten ++ P.take j, (rdI s v).2 = 0) ∧ FlS w o (((L.take k).flatten ++ P.take j).map fun w => (rdI s w).1) wr) (fun _ i _ => m - (intOf i).toNat)
      case atStart => exact ⟨0, Nat.zero_le _, rfl, Lib.hid HJ0.out.1, HJ0.out.2⟩
      case round =>
        obtain ⟨j, hj, rfl, hG, hS⟩ := hrel
        have HS := Lib.hid hS
        clear HJ0 hS
        by_cases hjt : j < m
        · obtain ⟨⟨a, b⟩, hq⟩ : ∃ q, P[j]? = some q := ⟨_, List.getElem?_eq_getElem (by have := HM.out; omega)⟩
          obtain ⟨h, off, rfl, hh, x0, x1⟩ := HP1.out j a b hq
          replace x0 := (HS.out.below.cell (p := ⟨h, _, none⟩) hh).trans x0
          replace x1 := (HS.out.below.cell (p := ⟨h, _, none⟩) hh).trans x1
          have hji : (j : Int) < (m : Int) := by omega
          have HX := Lib.hid fun W => HTX.out a b W
          have HR := Lib.hid fun W => HRI.out (a, b) W
          have HFB := Lib.hid (HFL.out k j P _ HPK.out hq)
          have HBX := World.alloc_heap_new wr (.cells #[.int .i64 (a : Nat), .int .i64 (b : Nat)] 80)
          have HBY : Hid (∀ W, Below (wr.alloc (.cells #[.int .i64 (a : Nat), .int .i64 (b : Nat)] 80)).heap.size (wr.alloc (.cells #[.int .i64 (a : Nat), .int .i64 (b : Nat)] 80)) W → W.cell? ⟨wr.heap.size, 0, none⟩ = some (.int .i64 (a : Nat))) := fun W hW => by
            have := (hW.block _ (by simp)).trans HBX
            unfold World.cell?; rw [this]; rfl
          have HSA := Lib.hid (HS.out.next (fbelow_box_s wr (.cells #[.int .i64 (a : Nat), .int .i64 (b : Nat)] 80)))
          clear HBX
          by_cases hz : (rdI s (a, b)).2 = 0
          · have HO := Lib.hid (HOK.out k j P _ hq hG.out hz)
            have HT := Lib.hid (HMP.out k j P _ hq)
            simp only [hz] at HR
            have hfb := HFB.out
            have hlen : (((L.take k).flatten ++ P.take j).map fun w => (rdI s w).1).length = ((L.take k).flatten ++ P.take j).length := List.length_map _
            generalize (rdI s (a, b)).1 = x at *
            generalize wordT s (a, b) = T at *
            generalize (((L.take k).flatten ++ P.take j).map fun w => (rdI s w).1) = S at *
            obtain ⟨q, hq2⟩ : ∃ q, ((L.take k).flatten ++ P.take j).length = q := ⟨_, rfl⟩
            rw [hq2] at hlen hfb
            have HLN := Lib.hid hlen
            have hml : q + 1 ≤ maxLen := by unfold maxLen; omega
            have hml2 : (q + 1) * 8 ≤ 140737488355328 := by omega
            have HGO : Hid (∀ W, FlS w u8 S W → ((W.alloc (.cells #[.int .i64 x] 3)).ownsRow (w.heap.size + 1) 3 1 u8 q (S.map intV)) ∧ w.heap.size + 1 ≤ W.heap.size ∧ (∀ v' w5, w5.ownsRow (w.heap.size + 1) 3 1 v' (q + 1) (S.map intV ++ [.int .i64 x]) → (W.alloc (.cells #[.int .i64 x] 3)).grownBy w5 u8.ownBlock → FlS w v' (S ++ [x]) w5)) := fun W h =>
              ⟨by have e := (h.next (fbelow_box_s W (.cells #[.int .i64 x] 3))).row; rw [HLN.out] at e; exact e, h.lt, fun v' w5 h1 h2 => (h.next (fbelow_box_s W _)).grow h2 (by rw [List.map_append, List.length_append, HLN.out]; exact h1)⟩
            clear hq hz hlen hq2 hfb HS
            go_wp2_with (first
              | (go_at_call 32; (with_reducible refine (HX.out _).mono ?_); rintro e w1 ⟨rfl, hb1⟩; have HS1 := Lib.hid (HSA.out.next hb1); clear hb1)
              | (go_at_call 36; (with_reducible refine (HR.out _).mono ?_); rintro e w2 ⟨rfl, hb2⟩; have HS2 := Lib.hid (HS1.out.next hb2); obtain ⟨g1, g2, g3⟩ := HGO.out _ HS2.out; have HG1 := Lib.hid g1; have HG3 := Lib.hid g3; clear hb2 g1 g3)
              | (at_builtin; refine wpList_append_own _ rfl _ _ 38 rfl (w.heap.size + 1) 3 i0 (.int .i64 0) 1 8 Try.underlying38 HI.out hz0 hz1 hz2 rfl (by decide) u8 q (S.map intV) rfl HG1.out ⟨w2.heap.size, 0, none⟩ 1 1 [.int .i64 x] rfl rfl (fun j u h => cells_arr_s _ _ _ j u h) (by simp [Value.oneCell']) hml hml2 (by simp at g2 ⊢; omega) ?_; intro v' w5 hown' hgrow _; have HS7 := Lib.hid (HG3.out v' w5 hown' hgrow); clear hown' hgrow))
            go_roundw
            case rel => exact ⟨j + 1, by omega, by go_num, HO, by rw [HT.out]; exact HS7.out⟩
            case measure => simp [intOf]; omega
          · have HE := Lib.hid (HBAD.out k j P _ HPK.out hq hG.out hz)
            have d : ((rdI s (a, b)).2 != 0) = true := bne_iff_ne.2 hz
            generalize (rdI s (a, b)).2 = z at *
            generalize (rdI s (a, b)).1 = x at *
            generalize wordT s (a, b) = T at *
            clear hq hz HS
            go_wp2_with (first
              | (go_at_call 32; (with_reducible refine (HX.out _).mono ?_); rintro e w1 ⟨rfl, hb1⟩; have HS1 := Lib.hid (HSA.out.next hb1); have HB1 := Lib.hid hb1; clear hb1)
              | (go_at_call 36; (with_reducible refine (HR.out _).mono ?_); rintro e w2 ⟨rfl, hb2⟩; go_loud (have HS2 := Lib.hid (HS1.out.next hb2); have HB2 := Lib.hid (HB1.out.trans (hb2.mono HB1.out.size)); clear hb2 x0 x1 e0)))
            obtain ⟨V, hV⟩ : ∃ V, V = w2 := ⟨_, rfl⟩
            have y0 := HBY.out V (by rw [hV]; exact HB2.out)
            rw [← hV] at HS2 ⊢
            clear hV
            obtain ⟨r0, r1, f0, f1⟩ := HS2.out.cells
            have hsz := HS2.out.lt
            have HB3 := Lib.hid HS2.out.below
            generalize wr.heap.size = B at *
            go_region
            go_wp2
            refine bodyPost_ret (v := .tuple #[.slice none 0 0, .agg #[.int .i64 (a : Nat), .int .i64 z]]) (by simp [results, Try.results35, go_sem, r0, r1]) rfl ⟨.slice none 0 0, by rw [HE.out], by rw [HE.out]; exact ⟨rfl, .inl ⟨rfl, rfl⟩⟩, ?_⟩
            exact below_drew_s ((HB3.out.setCell (Nat.le_refl _) _).setCell (Nat.le_refl _) _)
        · obtain rfl : j = m := by omega
          have HH : Hid ((∀ v ∈ (L.take (k + 1)).flatten, (rdI s v).2 = 0) ∧ FlS w u8 ((L.take (k + 1)).flatten.map fun w => (rdI s w).1) wr) := by
            unfold Hid
            have h1 := hG.out
            have h2 := HS.out
            rw [HPA.out, ← HFT.out k P HPK.out] at h1 h2
            exact ⟨h1, h2⟩
          clear hj hjt hG HS
          go_wp2
          go_roundw
          case rel => exact ⟨k + 1, by omega, by go_num, Lib.hid HH.out.1, HH.out.2⟩
          case measure => simp [intOf]; omega
    · obtain rfl : k = n := by omega
      have HE := Lib.hid (HALL.out hG.out)
      have hI := Lib.hid (own_set_s (own_set_s HS.out.row (a := ⟨w.heap.size, 0, none⟩) (Nat.lt_succ_self _) (.int .i64 0)) (a := ⟨w.heap.size, 1, none⟩) (Nat.lt_succ_self _) (.int .i64 0))
      obtain ⟨r0, r1, f0, f1⟩ := HS.out.cells
      have hsz := HS.out.lt
      have HB2 := Lib.hid HS.out.below
      clear hlt hk
      go_wp2
      refine bodyPost_ret (v := .tuple #[u8, .agg #[.int .i64 0, .int .i64 0]]) (by simp [results, Try.results35, go_sem, r0, r1]) rfl ⟨u8, by rw [HE.out]; rfl, by rw [HE.out]; exact hI.out, ?_⟩
      exact (HB2.out.setCell (Nat.le_refl _) _).setCell (Nat.le_refl _) _
end Go.Proofs
