/- The document's Read, at every text of at most 1000000 bytes. -/
import Derived.Test.YtiedogcekalfjaaG06
import Derived.Test.YtiedogcekalfjaaG02
import Derived.Shelf.Abstract
import Derived.Shelf.RegionOpen
import Derived.WalkKit
import Derived.LoopNIn
import Derived.LoopIn
import Derived.Lib.OthersKept
import Derived.Lib.Hide
import Derived.Test.YtiedogcekalfjaaProg
import Derived.Laws.AppendOwn
import Derived.Laws.OwnMore
import Derived.Laws.MakeOwn
import Derived.Lib.QuietBelow
import Derived.RangeFuncRecord
import Derived.Deep.QuietTactic
import Derived.BigQuiet
import Derived.Test.YtiedogcekalfjaaG05
namespace Go.Fx
/-- The document's Read. -/
def readR (l : List UInt8) : Int × Nat × Int := readT (sgn l) (tailIf 45 l)
theorem digR_len {l : List UInt8} {k : Nat} {n : Int} (h : digR l k = (n, true)) : l.length ≤ k := by
  unfold digR at h
  split at h
  · rename_i hd; exact hd.2.1
  · cases h
theorem digR_val {l : List UInt8} {k : Nat} {n : Int} {b : Bool} (h : digR l k = (n, b)) : 0 ≤ n ∧ n < ((10 ^ k : Nat) : Int) := by
  have := digR_bd l (k := k)
  rw [h] at this
  exact this
end Go.Fx
namespace Go.Proofs
open Go.RowKit Go.Fx

theorem Try.rRead_head (s T : ByteArray) (g : Int) (hH : Head s T g) (hg : g = 1 ∨ g = -1) (hs : s.size ≤ 1000000) (hT : T.size ≤ 1000000) (w : World) :
    Calls Try.prog 40 #[.string s] w fun e w' => e = .returned (.tuple #[.agg #[.int .i64 (readT g T.data.toList).1, .int .i64 ((readT g T.data.toList).2.1 : Int)], .int .i64 (readT g T.data.toList).2.2]) ∧ Below w.heap.size w w' := by
  obtain ⟨p, hp⟩ : ∃ p, p = pt T.data.toList 0 := ⟨_, rfl⟩
  have hpl := pt_le (l := T.data.toList) (k := 0) (by omega)
  have hlen : T.data.toList.length = T.size := Array.length_toList
  rw [← hp, hlen] at hpl
  obtain ⟨n1, b1, hd1⟩ : ∃ n1 b1, digR (T.data.toList.take p) 12 = (n1, b1) := ⟨_, _, rfl⟩
  have hn1 := digR_val hd1
  simp only [Nat.reducePow] at hn1
  have G1 : Dgs (T.extract 0 p) 12 n1 b1 := dgs_of _ 12 (by omega) (by rw [ByteArray.size_extract]; omega) (by rw [Lib.extract_data]; simpa using hd1)
  have HP : Hid (p = pt T.data.toList 0) := hp
  unfold readT
  rw [← hp, hd1]
  cases b1 with
  | false => exact Try.rRead_none s T g hH hs hT p HP hpl n1 G1 w
  | true =>
    simp only [if_true]
    by_cases hps : p < T.size
    · rw [if_pos (by rw [hlen]; exact hps)]
      obtain ⟨n2, b2, hd2⟩ : ∃ n2 b2, digR (T.data.toList.drop (p + 1)) 6 = (n2, b2) := ⟨_, _, rfl⟩
      have hn2 := digR_val hd2
      simp only [Nat.reducePow] at hn2
      have G2 : Dgs (T.extract (p + 1) T.size) 6 n2 b2 := dgs_of _ 6 (by omega) (by rw [ByteArray.size_extract]; omega) (by rw [Lib.extract_data]; simpa [List.take_of_length_le] using hd2)
      rw [hd2]
      cases b2 with
      | false => exact Try.rRead_tail s T g hH hs hT p HP hpl n1 G1 hps n2 G2 w
      | true =>
        simp only [if_true]
        have hl6 := digR_len hd2
        rw [List.length_drop, hlen] at hl6
        obtain ⟨q, hq⟩ : ∃ q : Nat, q = T.size - p - 1 := ⟨_, rfl⟩
        have hqi : (T.size : Int) - (p : Int) - 1 = (q : Int) := by omega
        have hqn : T.data.toList.length - p - 1 = q := by rw [hlen]; exact hq.symm
        have hp10 := p10_pos (q : Int)
        have hp11 := p10_le (x := (q : Int)) (k := 6) (by omega)
        simp only [Nat.reducePow] at hp11
        have hYb := mul_bd (m := n1) (t := p10 (q : Int)) (M := 999999999999) (T := 1000000) (by omega) (by omega) (by omega) (by omega) (by omega)
        have hY0 : 0 ≤ n1 * p10 (q : Int) := Int.mul_nonneg hn1.1 (by omega)
        obtain ⟨Y, hY⟩ : ∃ Y, Y = n1 * p10 (q : Int) := ⟨_, rfl⟩
        rw [← hY] at hYb hY0
        have hX : wrap64 (g * (Y + n2)) = g * (Y + n2) ∧ -1000000000000000000 ≤ g * (Y + n2) ∧ g * (Y + n2) ≤ 1000000000000000000 := by
          rcases hg with e | e <;> rw [e] <;> refine ⟨?_, ?_, ?_⟩ <;> (try unfold wrap64) <;> omega
        obtain ⟨X, hXe⟩ : ∃ X, X = g * (Y + n2) := ⟨_, rfl⟩
        rw [← hXe] at hX
        rw [hqn, hlen, hqi, ← hY, ← hXe]
        obtain ⟨x, y, hL⟩ : ∃ x y, least q X = (x, y) := ⟨_, _, rfl⟩
        have GL : Hid (∀ W, Calls Try.prog 66 #[.agg #[.int .i64 X, .int .i64 ((T.size : Int) - (p : Int) - 1)]] W fun e w' => e = .returned (.agg #[.int .i64 x, .int .i64 (y : Int)]) ∧ Below W.heap.size W w') := by
          intro W
          have := Try.rLeast_any X q (by omega) (by omega) (by omega) W
          rwa [hL, ← hqi] at this
        have hYw : wrap64 (n1 * p10 ((T.size : Int) - (p : Int) - 1)) = Y := by rw [hqi, ← hY]; unfold wrap64; omega
        have hXw : wrap64 (g * (Y + n2)) = X := by rw [← hXe]; exact hX.1
        rw [hL]
        unfold chkL
        by_cases hf : fitB x = true
        · rw [if_pos hf]
          exact Try.rRead_point_fit s T g hH hs hT p HP hpl n1 G1 hps n2 G2 (by omega) (by omega) X Y (by omega) hYw hXw x y GL (fitB_of hf) w
        · rw [if_neg hf]
          rcases fitB_not hf with hx | hx
          · exact Try.rRead_point_low s T g hH hs hT p HP hpl n1 G1 hps n2 G2 (by omega) (by omega) X Y (by omega) hYw hXw x y GL hx w
          · exact Try.rRead_point_high s T g hH hs hT p HP hpl n1 G1 hps n2 G2 (by omega) (by omega) X Y (by omega) hYw hXw x y GL hx w
    · rw [if_neg (by rw [hlen]; exact hps)]
      have hpe : p = T.size := by omega
      have hX : wrap64 (g * n1) = g * n1 ∧ -1000000000000 ≤ g * n1 ∧ g * n1 ≤ 1000000000000 := by
        rcases hg with e | e <;> rw [e] <;> refine ⟨?_, ?_, ?_⟩ <;> (try unfold wrap64) <;> omega
      obtain ⟨X, hXe⟩ : ∃ X, X = g * n1 := ⟨_, rfl⟩
      rw [← hXe] at hX ⊢
      obtain ⟨x, y, hL⟩ : ∃ x y, least 0 X = (x, y) := ⟨_, _, rfl⟩
      have GL : Hid (∀ W, Calls Try.prog 66 #[.agg #[.int .i64 X, .int .i64 0]] W fun e w' => e = .returned (.agg #[.int .i64 x, .int .i64 (y : Int)]) ∧ Below W.heap.size W w') := by
        intro W
        have := Try.rLeast_any X 0 (by omega) (by omega) (by omega) W
        rwa [hL] at this
      have hXw : wrap64 (g * n1) = X := by rw [← hXe]; exact hX.1
      rw [hL]
      unfold chkL
      by_cases hf : fitB x = true
      · rw [if_pos hf]
        exact Try.rRead_whole_fit s T g hH hs hT p HP hpl hpe n1 G1 X hXw x y GL (fitB_of hf) w
      · rw [if_neg hf]
        rcases fitB_not hf with hx | hx
        · exact Try.rRead_whole_low s T g hH hs hT p HP hpl hpe n1 G1 X hXw x y GL hx w
        · exact Try.rRead_whole_high s T g hH hs hT p HP hpl hpe n1 G1 X hXw x y GL hx w
theorem Try.rRead_any (s : ByteArray) (hs : s.size ≤ 1000000) (w : World) :
    Calls Try.prog 40 #[.string s] w fun e w' => e = .returned (.tuple #[.agg #[.int .i64 (readR s.data.toList).1, .int .i64 ((readR s.data.toList).2.1 : Int)], .int .i64 (readR s.data.toList).2.2]) ∧ Below w.heap.size w w' := by
  unfold readR
  by_cases h0 : 0 < s.size
  · by_cases hm : s[0] = 45
    · obtain ⟨e1, e2⟩ := head_minus s h0 hm
      rw [e1, e2]
      exact Try.rRead_head s _ (-1) (.inl ⟨h0, hm, rfl, rfl⟩) (.inr rfl) hs (by rw [ByteArray.size_extract]; omega) w
    · obtain ⟨e1, e2⟩ := head_other s h0 hm
      rw [e1, e2]
      exact Try.rRead_head s s 1 (.inr (.inl ⟨h0, hm, rfl, rfl⟩)) (.inl rfl) hs hs w
  · have hz : s = ⟨#[]⟩ := by
      apply ByteArray.ext
      have h1 : s.data.size = 0 := by show s.size = 0; omega
      exact Array.eq_empty_of_size_eq_zero h1
    subst hz
    exact Try.rRead_head ⟨#[]⟩ ⟨#[]⟩ 1 (.inr (.inr ⟨rfl, rfl, rfl⟩)) (.inl rfl) (by decide) (by decide) w
#print axioms Try.rRead_any
end Go.Proofs
/- What fixed.Int and fixed.Read tell is what the document's tell. No program. -/
namespace Go.Fx
open Go.Proofs
theorem digs_full {l : List UInt8} (h : l.all dg = true) : digs l = l := by
  unfold digs
  induction l with
  | nil => rfl
  | cons c r ih =>
    simp only [List.all_cons, Bool.and_eq_true] at h
    rw [List.takeWhile_cons, if_pos h.1, ih h.2]
theorem digs_part {l : List UInt8} (h : ¬ l.all dg = true) : l.drop (digs l).length ≠ [] := by
  intro e
  apply h
  have h1 : l.length ≤ (digs l).length := by simpa using e
  have h2 : digs l = l := (List.takeWhile_prefix dg (l := l)).eq_of_length (Nat.le_antisymm (List.takeWhile_prefix dg (l := l)).length_le h1)
  rw [← h2]
  exact List.all_eq_true.2 digs_all
theorem p10_add (a b : Nat) : p10 ((a + b : Nat) : Int) = p10 (a : Int) * p10 (b : Int) := by
  rw [p10_nat, p10_nat, p10_nat, Nat.pow_add]
  exact Int.natCast_mul _ _
theorem p10_one : p10 (1 : Nat) = 10 := by rw [p10_nat]; rfl
theorem valF_split (m : Int) (l : List UInt8) : valF m l = m * p10 (l.length : Int) + valF 0 l := by
  induction l generalizing m with
  | nil => simp [valF, p10]
  | cons c r ih =>
    have e1 : valF m (c :: r) = valF (10 * m + ((c.toNat : Int) - 48)) r := rfl
    have e2 : valF 0 (c :: r) = valF (10 * 0 + ((c.toNat : Int) - 48)) r := rfl
    rw [e1, e2, ih, ih (10 * 0 + ((c.toNat : Int) - 48))]
    have e3 : p10 ((c :: r).length : Int) = p10 (r.length : Int) * 10 := by
      rw [List.length_cons, p10_add, p10_one]
    rw [e3, Int.add_mul, Int.add_mul]
    have : m * (p10 (r.length : Int) * 10) = 10 * m * p10 (r.length : Int) := by rw [Int.mul_comm (p10 _) 10, ← Int.mul_assoc, Int.mul_comm m 10]
    omega
theorem takeN_rest {m : Int} {s : Nat} {r : List UInt8} (h : r ≠ []) : takeN (some (m, s, r)) = (0, 0, 20) := by
  simp only [takeN]; rw [if_neg h]
theorem takeN_end (m : Int) (s : Nat) : takeN (some (m, s, [])) = chkL (least s m) := by
  simp only [takeN, chkL, if_true]
theorem fit_sgn {g v : Int} (hg : g = 1 ∨ g = -1) (h : 0 ≤ v) : fitB (g * v) = true ↔ ¬ 100000000 < v := by
  rcases hg with e | e <;> rw [e] <;> simp [fitB] <;> omega
theorem chkL_yes {x : Int} {y : Nat} (h : fitB x = true) : chkL (x, y) = (x, y, 0) := by unfold chkL; exact if_pos h
theorem chkL_no {x : Int} {y : Nat} (h : ¬ fitB x = true) : chkL (x, y) = (0, 0, 2) := by unfold chkL; exact if_neg h
theorem int_same (l : List UInt8) : (intN l).1 = (intR l).1 ∧ (intN l).2.2 = (intR l).2 := by
  unfold intN intR numI
  generalize ht : tailIf 45 l = t
  generalize hg : sgn l = g
  have hg' : g = 1 ∨ g = -1 := hg ▸ sgn_cases l
  by_cases ha : t.all dg = true
  · rw [digs_full ha]
    by_cases hl : 1 ≤ t.length ∧ t.length ≤ 12
    · have hv := valF_bd (a := 0) 0 (by omega) (by decide) t (List.all_eq_true.1 ha)
      have hR : digR t 12 = (valF 0 t, true) := by unfold digR; rw [if_pos ⟨hl.1, hl.2, ha⟩]
      rw [if_pos hl, hR, List.drop_length, takeN_end]
      have hL : least 0 (g * valF 0 t) = (g * valF 0 t, 0) := rfl
      rw [hL]
      simp only [intT, if_true]
      by_cases hb : 100000000 < valF 0 t
      · rw [chkL_no (fun h => (fit_sgn hg' hv.1).1 h hb), if_pos hb]; exact ⟨rfl, rfl⟩
      · rw [chkL_yes ((fit_sgn hg' hv.1).2 hb), if_neg hb]; exact ⟨rfl, rfl⟩
    · have hR : digR t 12 = (0, false) := by unfold digR; rw [if_neg (fun h => hl ⟨h.1, h.2.1⟩)]
      rw [if_neg hl, hR]
      exact ⟨rfl, rfl⟩
  · have hR : digR t 12 = (0, false) := by unfold digR; rw [if_neg (fun h => ha h.2.2)]
    rw [hR]
    split
    · rw [takeN_rest (digs_part ha)]; exact ⟨rfl, rfl⟩
    · exact ⟨rfl, rfl⟩
theorem pt_take (l : List UInt8) : l.take (pt l 0) = l.takeWhile (· != 46) := by
  unfold pt
  simp only [List.drop_zero, Nat.zero_add]
  exact (List.prefix_iff_eq_take.1 (List.takeWhile_prefix _)).symm
theorem pt_cons (c : UInt8) (l : List UInt8) : pt (c :: l) 0 = if c = 46 then 0 else pt l 0 + 1 := by
  unfold pt
  simp only [List.drop_zero, List.takeWhile_cons, Nat.zero_add]
  by_cases h : c = 46 <;> simp [h]
theorem pt_at {l : List UInt8} (h : pt l 0 < l.length) : ∃ r, l.drop (pt l 0) = 46 :: r := by
  induction l with
  | nil => simp at h
  | cons c l ih =>
    rw [pt_cons] at h ⊢
    by_cases hc : c = 46
    · rw [if_pos hc]; exact ⟨l, by rw [hc]; rfl⟩
    · rw [if_neg hc] at h ⊢
      simp only [List.length_cons, Nat.add_lt_add_iff_right] at h
      exact ih h
theorem read_same (l : List UInt8) : readN l = readR l := by
  unfold readN readR numR readT
  generalize ht : tailIf 45 l = t
  generalize hg : sgn l = g
  obtain ⟨p, hp⟩ : ∃ p, p = pt t 0 := ⟨_, rfl⟩
  have hpl : p ≤ t.length := by rw [hp]; exact pt_le (Nat.zero_le _)
  rw [← hp]
  by_cases ha : (t.take p).all dg = true
  · -- the digits ahead are just those ahead of the point
    have hD : digs t = t.take p := by
      refine takeWhile_stop (List.all_eq_true.1 ha) ?_
      by_cases hlt : p < t.length
      · obtain ⟨r, hr⟩ := pt_at (hp ▸ hlt)
        rw [← hp] at hr
        refine .inr ⟨46, ?_, rfl⟩
        have := congrArg List.head? hr
        simpa using this
      · exact .inl (by omega)
    have hlen : (t.take p).length = p := by rw [List.length_take]; exact Nat.min_eq_left hpl
    rw [hD, hlen]
    by_cases hl : 1 ≤ p ∧ p ≤ 12
    · have hR : digR (t.take p) 12 = (valF 0 (t.take p), true) := by unfold digR; rw [hlen, if_pos ⟨hl.1, hl.2, ha⟩]
      rw [if_pos hl, hR]
      simp only [if_true]
      unfold numT
      by_cases hlt : p < t.length
      · obtain ⟨r, hr⟩ := pt_at (hp ▸ hlt)
        rw [← hp] at hr
        have hr1 : t.drop (p + 1) = r := by
          have := congrArg List.tail hr
          simpa using this
        have hrl : t.length - p - 1 = r.length := by rw [← hr1, List.length_drop]; omega
        have hri : (t.length : Int) - (p : Int) - 1 = (r.length : Int) := by omega
        rw [hr, hr1, if_pos (show headB 46 (46 :: r) = true from rfl), if_pos hlt, hrl, hri]
        rw [show ((46 : UInt8) :: r).tail = r from rfl]
        by_cases hb : r.all dg = true
        · rw [digs_full hb]
          by_cases hq : 1 ≤ r.length ∧ r.length ≤ 6
          · have hR2 : digR r 6 = (valF 0 r, true) := by unfold digR; rw [if_pos ⟨hq.1, hq.2, hb⟩]
            rw [if_pos hq, hR2, List.drop_length, takeN_end, valF_split (valF 0 (t.take p)) r]
            simp only [if_true]
          · have hR2 : digR r 6 = (0, false) := by unfold digR; rw [if_neg (fun h => hq ⟨h.1, h.2.1⟩)]
            rw [if_neg hq, hR2]
            rfl
        · have hR2 : digR r 6 = (0, false) := by unfold digR; rw [if_neg (fun h => hb h.2.2)]
          rw [hR2]
          simp only [Bool.false_eq_true, if_false]
          split
          · exact takeN_rest (digs_part hb)
          · rfl
      · have hpe : p = t.length := by omega
        rw [if_neg hlt, hpe, List.drop_length, if_neg (show ¬ headB 46 [] = true from by simp [headB]), takeN_end]
    · have hR : digR (t.take p) 12 = (0, false) := by unfold digR; rw [hlen, if_neg (fun h => hl ⟨h.1, h.2.1⟩)]
      rw [if_neg hl, hR]
      rfl
  · have hR : digR (t.take p) 12 = (0, false) := by unfold digR; rw [if_neg (fun h => ha h.2.2)]
    rw [hR]
    simp only [Bool.false_eq_true, if_false]
    split
    · -- what is left begins with no point, and is not empty
      have hlt : (digs t).length < p := by
        apply Nat.lt_of_not_le
        intro hle
        apply ha
        have h1 : t.take p = (digs t).take p := by
          have := List.prefix_iff_eq_take.1 (List.takeWhile_prefix dg (l := t))
          have e : digs t = t.take (digs t).length := this
          conv => rhs; rw [e]
          rw [List.take_take, Nat.min_eq_left hle]
        rw [h1]
        exact List.all_eq_true.2 (fun c hc => digs_all c (List.mem_of_mem_take hc))
      have hne : t.drop (digs t).length ≠ [] := by
        intro e
        have := congrArg List.length e
        simp at this; omega
      have hhead : headB 46 (t.drop (digs t).length) = false := by
        have hk : (digs t).length < t.length := by omega
        rw [List.drop_eq_getElem_cons hk]
        have hx : t[(digs t).length] ∈ t.takeWhile (· != 46) := by
          rw [← pt_take, ← hp]
          rw [List.mem_take_iff_getElem]
          exact ⟨_, by omega, rfl⟩
        have := List.all_takeWhile (p := (· != 46)) (l := t)
        rw [List.all_eq_true] at this
        have := this _ hx
        simp only [headB]
        simpa using this
      unfold numT
      rw [if_neg (by rw [hhead]; simp)]
      exact takeN_rest hne
    · rfl
#print axioms int_same
#print axioms read_same
end Go.Fx
/- Plain facts on layouts of matrices; no program. kind of 1 to 7; n rows; places are told as pairs of a row and a column. -/
namespace Go.Layout

/-- Does a layout tell the number of row i and column j? -/
def tells (k i j : Nat) : Bool :=
  if k = 2 ∨ k = 6 then decide (i < j) else if k = 3 ∨ k = 7 then decide (j < i) else if k = 4 then decide (i ≤ j) else if k = 5 then decide (j ≤ i) else true
/-- The place of step a, b of two loops: column by column in two of the layouts. -/
def cellAt (k : Nat) (p : Nat × Nat) : Nat × Nat := if k = 6 ∨ k = 7 then (p.2, p.1) else p
/-- All pairs, row by row. -/
def pairs (n : Nat) : List (Nat × Nat) := (List.range (n * n)).map fun x => (x / n, x % n)
/-- The places that a layout tells among the first s steps, in its order. -/
def toldUpto (k n s : Nat) : List (Nat × Nat) := (((pairs n).take s).map (cellAt k)).filter fun q => tells k q.1 q.2
def places (k n : Nat) : List (Nat × Nat) := ((pairs n).map (cellAt k)).filter fun q => tells k q.1 q.2

theorem pairs_length (n : Nat) : (pairs n).length = n * n := by simp [pairs]
theorem div_step {n a b : Nat} (hb : b < n) : (a * n + b) / n = a := by
  rw [Nat.mul_comm, Nat.mul_add_div (by omega), Nat.div_eq_of_lt hb]; omega
theorem mod_step {n a b : Nat} (hb : b < n) : (a * n + b) % n = b := by
  rw [Nat.mul_comm, Nat.mul_add_mod, Nat.mod_eq_of_lt hb]
theorem step_lt {n a b : Nat} (ha : a < n) (hb : b < n) : a * n + b < n * n := by
  have h1 : (a + 1) * n ≤ n * n := Nat.mul_le_mul_right n ha
  rw [Nat.add_mul] at h1
  omega
theorem pairs_get {n a b : Nat} (ha : a < n) (hb : b < n) : (pairs n)[a * n + b]? = some (a, b) := by
  have h := step_lt ha hb
  simp [pairs, List.getElem?_range h, div_step hb, mod_step hb]
theorem mem_pairs {n a b : Nat} : (a, b) ∈ pairs n ↔ a < n ∧ b < n := by
  constructor
  · intro h
    obtain ⟨x, hx, he⟩ := List.mem_map.1 h
    have hx := List.mem_range.1 hx
    have hn : 0 < n := by rcases Nat.eq_zero_or_pos n with h0 | h0; · subst h0; simp at hx
                          · exact h0
    cases he
    exact ⟨(Nat.div_lt_iff_lt_mul hn).2 hx, Nat.mod_lt _ hn⟩
  · rintro ⟨ha, hb⟩
    exact List.mem_of_getElem? (pairs_get ha hb)
theorem nodup_map {α β : Type} {f : α → β} {l : List α} (h : ∀ x ∈ l, ∀ y ∈ l, f x = f y → x = y) (hl : l.Nodup) : (l.map f).Nodup := by
  unfold List.Nodup at hl ⊢
  rw [List.pairwise_map]
  exact hl.imp_of_mem fun hx hy hne e => hne (h _ hx _ hy e)
theorem pairs_nodup (n : Nat) : (pairs n).Nodup := by
  refine nodup_map ?_ List.nodup_range
  intro x hx y hy h
  have h1 : x / n = y / n := (Prod.mk.inj h).1
  have h2 : x % n = y % n := (Prod.mk.inj h).2
  rw [← Nat.div_add_mod x n, ← Nat.div_add_mod y n, h1, h2]
theorem cellAt_cellAt (k : Nat) (p : Nat × Nat) : cellAt k (cellAt k p) = p := by unfold cellAt; split <;> rfl
theorem cellAt_inj {k : Nat} {p q : Nat × Nat} (h : cellAt k p = cellAt k q) : p = q := by rw [← cellAt_cellAt k p, h, cellAt_cellAt]
theorem cells_nodup (k n : Nat) : ((pairs n).map (cellAt k)).Nodup := nodup_map (fun _ _ _ _ h => cellAt_inj h) (pairs_nodup n)
theorem places_nodup (k n : Nat) : (places k n).Nodup := (cells_nodup k n).filter _
theorem mem_cells {k n i j : Nat} : (i, j) ∈ (pairs n).map (cellAt k) ↔ i < n ∧ j < n := by
  rw [List.mem_map]
  constructor
  · rintro ⟨⟨a, b⟩, h, he⟩
    have := mem_pairs.1 h
    unfold cellAt at he
    split at he <;> cases he <;> exact ⟨by omega, by omega⟩
  · rintro ⟨hi, hj⟩
    refine ⟨cellAt k (i, j), ?_, cellAt_cellAt k _⟩
    unfold cellAt
    split
    · exact mem_pairs.2 ⟨hj, hi⟩
    · exact mem_pairs.2 ⟨hi, hj⟩
theorem mem_places {k n i j : Nat} : (i, j) ∈ places k n ↔ (i < n ∧ j < n) ∧ tells k i j = true := by
  unfold places; rw [List.mem_filter, mem_cells]
theorem toldUpto_zero (k n : Nat) : toldUpto k n 0 = [] := by simp [toldUpto]
theorem toldUpto_all (k n : Nat) : toldUpto k n (n * n) = places k n := by
  unfold toldUpto places; rw [List.take_of_length_le (by rw [pairs_length]; exact Nat.le_refl _)]
theorem toldUpto_next {k n a b : Nat} (ha : a < n) (hb : b < n) :
    toldUpto k n (a * n + b + 1) = toldUpto k n (a * n + b) ++ if tells k (cellAt k (a, b)).1 (cellAt k (a, b)).2 = true then [cellAt k (a, b)] else [] := by
  unfold toldUpto
  rw [List.take_add_one, pairs_get ha hb]
  simp only [Option.toList_some, List.map_append, List.filter_append, List.map_cons, List.map_nil, List.filter_cons, List.filter_nil]
theorem toldUpto_row {k n a : Nat} : toldUpto k n (a * n + n) = toldUpto k n ((a + 1) * n + 0) := by rw [Nat.add_mul, Nat.one_mul, Nat.add_zero]
theorem toldUpto_pre (k n s : Nat) : toldUpto k n s <+: places k n := by
  unfold toldUpto places
  exact ((List.take_prefix s (pairs n)).map _).filter _
theorem toldUpto_le (k n s : Nat) : (toldUpto k n s).length ≤ (places k n).length := (toldUpto_pre k n s).length_le
/-- The place of a step that is told is the next one. -/
theorem places_at {k n a b : Nat} (ha : a < n) (hb : b < n) (h : tells k (cellAt k (a, b)).1 (cellAt k (a, b)).2 = true) :
    (places k n)[(toldUpto k n (a * n + b)).length]? = some (cellAt k (a, b)) := by
  have h1 := toldUpto_next (k := k) ha hb
  rw [if_pos h] at h1
  have h2 := toldUpto_pre k n (a * n + b + 1)
  rw [h1] at h2
  obtain ⟨r, hr⟩ := h2
  rw [← hr]
  simp

/-! How many are told. -/
/-- Is step a, b told? -/
def told (k a b : Nat) : Bool := tells k (cellAt k (a, b)).1 (cellAt k (a, b)).2
theorem told_one (a b : Nat) : told 1 a b = true := by simp [told, tells]
theorem told_up {k a b : Nat} (hk : k = 2 ∨ k = 7) : told k a b = decide (a < b) := by rcases hk with rfl | rfl <;> simp [told, tells, cellAt]
theorem told_low {k a b : Nat} (hk : k = 3 ∨ k = 6) : told k a b = decide (b < a) := by rcases hk with rfl | rfl <;> simp [told, tells, cellAt]
theorem told_four (a b : Nat) : told 4 a b = decide (a ≤ b) := by simp [told, tells, cellAt]
theorem told_five (a b : Nat) : told 5 a b = decide (b ≤ a) := by simp [told, tells, cellAt]
/-- How many are told of the first b steps of row a. -/
def rowUp (k a : Nat) : Nat → Nat
  | 0 => 0
  | b + 1 => rowUp k a b + if told k a b = true then 1 else 0
theorem len_next {k n a b : Nat} (ha : a < n) (hb : b < n) : (toldUpto k n (a * n + b + 1)).length = (toldUpto k n (a * n + b)).length + if told k a b = true then 1 else 0 := by
  rw [toldUpto_next ha hb]
  unfold told
  split <;> simp
theorem len_row {k n a b : Nat} (ha : a < n) (hb : b ≤ n) : (toldUpto k n (a * n + b)).length = (toldUpto k n (a * n)).length + rowUp k a b := by
  induction b with
  | zero => simp [rowUp]
  | succ b ih => rw [← Nat.add_assoc, len_next ha (by omega), ih (by omega), rowUp]; omega
/-- How many are told ahead of row a, row by row. -/
def rowsUp (k n : Nat) : Nat → Nat
  | 0 => 0
  | a + 1 => rowsUp k n a + rowUp k a n
theorem len_rows {k n a : Nat} (ha : a ≤ n) : (toldUpto k n (a * n)).length = rowsUp k n a := by
  induction a with
  | zero => simp [rowsUp, toldUpto_zero]
  | succ a ih => rw [Nat.add_mul, Nat.one_mul, len_row (by omega) (Nat.le_refl n), ih (by omega), rowsUp]
theorem len_at {k n a b : Nat} (ha : a < n) (hb : b ≤ n) : (toldUpto k n (a * n + b)).length = rowsUp k n a + rowUp k a b := by
  rw [len_row ha hb, len_rows (by omega)]
def tri : Nat → Nat
  | 0 => 0
  | a + 1 => tri a + a
theorem tri_eq (a : Nat) : 2 * tri a = a * (a - 1) := by
  induction a with
  | zero => rfl
  | succ a ih =>
    cases a with
    | zero => rfl
    | succ c =>
      simp only [tri, Nat.add_sub_cancel] at ih ⊢
      have : (c + 1 + 1) * (c + 1) = (c + 1) * c + 2 * (c + 1) := by simp only [Nat.add_mul, Nat.mul_add]; omega
      omega
theorem tri_half (n : Nat) : n * (n - 1) / 2 = tri n := by have := tri_eq n; omega
theorem tri_half' (n : Nat) : n * (n + 1) / 2 = tri (n + 1) := by have := tri_eq (n + 1); rw [Nat.add_sub_cancel, Nat.mul_comm (n + 1) n] at this; omega
/-- The number of places. -/
def count (k n : Nat) : Nat := if k = 1 then n * n else if k = 4 ∨ k = 5 then n * (n + 1) / 2 else n * (n - 1) / 2
theorem rowUp_one (a b : Nat) : rowUp 1 a b = b := by induction b with | zero => rfl | succ b ih => rw [rowUp, ih, told_one]; rfl
theorem rowUp_low {k : Nat} (hk : k = 3 ∨ k = 6) (a b : Nat) : rowUp k a b = min b a := by
  induction b with
  | zero => simp [rowUp]
  | succ b ih => rw [rowUp, ih, told_low hk]; by_cases h : b < a <;> simp [h] <;> omega
theorem rowUp_five (a b : Nat) : rowUp 5 a b = min b (a + 1) := by
  induction b with
  | zero => simp [rowUp]
  | succ b ih => rw [rowUp, ih, told_five]; by_cases h : b ≤ a <;> simp [h] <;> omega
theorem rowUp_up {k : Nat} (hk : k = 2 ∨ k = 7) (a b : Nat) : rowUp k a b = b - (a + 1) := by
  induction b with
  | zero => simp [rowUp]
  | succ b ih => rw [rowUp, ih, told_up hk]; by_cases h : a < b <;> simp [h] <;> omega
theorem rowUp_four (a b : Nat) : rowUp 4 a b = b - a := by
  induction b with
  | zero => simp [rowUp]
  | succ b ih => rw [rowUp, ih, told_four]; by_cases h : a ≤ b <;> simp [h] <;> omega
theorem rows_one (n a : Nat) : rowsUp 1 n a = a * n := by induction a with | zero => simp [rowsUp] | succ a ih => rw [rowsUp, ih, rowUp_one, Nat.add_mul, Nat.one_mul]
theorem rows_low {k : Nat} (hk : k = 3 ∨ k = 6) {n a : Nat} (ha : a ≤ n) : rowsUp k n a = tri a := by
  induction a with
  | zero => rfl
  | succ a ih => rw [rowsUp, ih (by omega), rowUp_low hk, tri]; omega
theorem rows_five {n a : Nat} (ha : a ≤ n) : rowsUp 5 n a = tri (a + 1) := by
  induction a with
  | zero => rfl
  | succ a ih => rw [rowsUp, ih (by omega), rowUp_five]; show _ = tri (a + 1) + (a + 1); omega
theorem rows_up {k : Nat} (hk : k = 2 ∨ k = 7) {n a : Nat} (ha : a ≤ n) : rowsUp k n a + tri (n - a) = tri n := by
  induction a with
  | zero => simp [rowsUp]
  | succ a ih =>
    have h1 := ih (by omega)
    rw [rowsUp, rowUp_up hk]
    rw [show n - a = (n - (a + 1)) + 1 by omega, tri] at h1
    omega
theorem rows_four {n a : Nat} (ha : a ≤ n) : rowsUp 4 n a + tri (n + 1 - a) = tri (n + 1) := by
  induction a with
  | zero => simp [rowsUp]
  | succ a ih =>
    have h1 := ih (by omega)
    rw [rowsUp, rowUp_four]
    rw [show n + 1 - a = (n + 1 - (a + 1)) + 1 by omega, tri] at h1
    omega
theorem places_length {k n : Nat} (hk : 1 ≤ k) (hk7 : k ≤ 7) : (places k n).length = count k n := by
  rw [← toldUpto_all, len_rows (Nat.le_refl n)]
  unfold count
  rcases (show k = 1 ∨ (k = 2 ∨ k = 7) ∨ (k = 3 ∨ k = 6) ∨ k = 4 ∨ k = 5 by omega) with rfl | hk | hk | rfl | rfl
  · rw [if_pos rfl, rows_one]
  · rw [if_neg (by omega), if_neg (by omega), tri_half]
    have := rows_up hk (Nat.le_refl n)
    rw [Nat.sub_self] at this
    simp only [tri] at this
    omega
  · rw [if_neg (by omega), if_neg (by omega), tri_half, rows_low hk (Nat.le_refl n)]
  · rw [if_neg (by omega), if_pos (by omega), tri_half']
    have := rows_four (Nat.le_refl n)
    rw [show n + 1 - n = 1 by omega] at this
    simp only [tri] at this ⊢
    omega
  · rw [if_neg (by omega), if_pos (by omega), tri_half', rows_five (Nat.le_refl n)]

/-! Where a place stands. -/
/-- At which place stands what is told of row i and column j. -/
def rank (k n i j : Nat) : Nat := (toldUpto k n ((cellAt k (i, j)).1 * n + (cellAt k (i, j)).2)).length
theorem cellAt_lt {k n i j : Nat} (hi : i < n) (hj : j < n) : (cellAt k (i, j)).1 < n ∧ (cellAt k (i, j)).2 < n := by unfold cellAt; split <;> exact ⟨by assumption, by assumption⟩
theorem rank_at {k n i j : Nat} (hi : i < n) (hj : j < n) (h : tells k i j = true) : (places k n)[rank k n i j]? = some (i, j) := by
  obtain ⟨h1, h2⟩ := cellAt_lt (k := k) hi hj
  have h3 : cellAt k ((cellAt k (i, j)).1, (cellAt k (i, j)).2) = (i, j) := cellAt_cellAt k (i, j)
  have := places_at (k := k) h1 h2 (by rw [h3]; exact h)
  rw [h3] at this
  exact this
theorem rank_lt {k n i j : Nat} (hi : i < n) (hj : j < n) (h : tells k i j = true) : rank k n i j < (places k n).length := by
  obtain ⟨h1, _⟩ := List.getElem?_eq_some_iff.1 (rank_at hi hj h); exact h1
theorem rank_inj {k n i j p q : Nat} (hi : i < n) (hj : j < n) (hp : p < n) (hq : q < n) (h : tells k i j = true) (g : tells k p q = true) (e : rank k n i j = rank k n p q) : i = p ∧ j = q := by
  have h1 := rank_at hi hj h
  have h2 := rank_at hp hq g
  rw [e, h2] at h1
  have := Option.some.inj h1
  cases this
  exact ⟨rfl, rfl⟩
theorem rank_all {k n c : Nat} (hc : c < (places k n).length) : ∃ i j, i < n ∧ j < n ∧ tells k i j = true ∧ rank k n i j = c := by
  obtain ⟨⟨i, j⟩, h⟩ : ∃ q, (places k n)[c]? = some q := ⟨_, List.getElem?_eq_getElem hc⟩
  have hm := mem_places.1 (List.mem_of_getElem? h)
  refine ⟨i, j, hm.1.1, hm.1.2, hm.2, ?_⟩
  have h2 := rank_at hm.1.1 hm.1.2 hm.2
  exact ((List.getElem?_inj hc (places_nodup k n)).1 (by rw [h, h2])).symm
/-- The index of row i and column j, either way round. -/
def index (k n i j : Nat) : Int := if tells k i j = true then (rank k n i j : Int) else if tells k j i = true then (rank k n j i : Int) else -1
theorem index_swap {k n i j : Nat} (hk : k ≠ 1) (hk1 : 1 ≤ k) (hk7 : k ≤ 7) : index k n j i = index k n i j := by
  unfold index
  by_cases h : i = j
  · subst h; rfl
  · by_cases h1 : tells k i j = true
    · have h2 : ¬ tells k j i = true := by
        unfold tells at h1 ⊢
        rcases (show k = 2 ∨ k = 3 ∨ k = 4 ∨ k = 5 ∨ k = 6 ∨ k = 7 by omega) with rfl | rfl | rfl | rfl | rfl | rfl <;> simp at h1 ⊢ <;> omega
      simp [h1, h2]
    · by_cases h2 : tells k j i = true
      · simp [h1, h2]
      · simp [h1, h2]
/-! Matrices, and what is told of them. -/
def cell (m : List Int) (n i j : Nat) : Int := m.getD (i * n + j) 0
/-- The number of row i and column j of the matrix that l tells. -/
def val (l : List Int) (k n i j : Nat) : Int := if tells k i j = true then l.getD (rank k n i j) 0 else if tells k j i = true then l.getD (rank k n j i) 0 else 0
def grid (n : Nat) (f : Nat → Nat → Int) : List Int := (pairs n).map fun p => f p.1 p.2
def unpack (k n : Nat) (l : List Int) : List Int := grid n (val l k n)
def pack (k n : Nat) (m : List Int) : List Int := (places k n).map fun q => cell m n q.1 q.2
/-- Is the number of row i and column j one that a layout can't tell? -/
def bad (k n : Nat) (m : List Int) (i j : Nat) : Bool := (decide (k ≠ 1) && decide (cell m n i j ≠ cell m n j i)) || (decide (i = j) && (!tells k i i && decide (cell m n i i ≠ 0)))

theorem grid_length (n : Nat) (f : Nat → Nat → Int) : (grid n f).length = n * n := by simp [grid, pairs]
theorem grid_get {n i j : Nat} (f : Nat → Nat → Int) (hi : i < n) (hj : j < n) : (grid n f)[i * n + j]? = some (f i j) := by
  simp [grid, pairs_get hi hj]
theorem cell_grid {n i j : Nat} (f : Nat → Nat → Int) (hi : i < n) (hj : j < n) : cell (grid n f) n i j = f i j := by
  simp [cell, List.getD, grid_get f hi hj]
theorem step_of {n x : Nat} (hx : x < n * n) : x / n < n ∧ x % n < n ∧ x / n * n + x % n = x := by
  have hn : 0 < n := by rcases Nat.eq_zero_or_pos n with h0 | h0; · subst h0; simp at hx
                        · exact h0
  exact ⟨(Nat.div_lt_iff_lt_mul hn).2 hx, Nat.mod_lt _ hn, by rw [Nat.mul_comm]; exact Nat.div_add_mod x n⟩
/-- Lists of n times n numbers are the same if their cells are. -/
theorem ext_cells {n : Nat} {l r : List Int} (hl : l.length = n * n) (hr : r.length = n * n) (h : ∀ i j, i < n → j < n → l[i * n + j]? = r[i * n + j]?) : l = r := by
  apply List.ext_getElem?
  intro x
  by_cases hx : x < n * n
  · obtain ⟨h1, h2, h3⟩ := step_of hx
    have := h _ _ h1 h2
    rwa [h3] at this
  · rw [List.getElem?_eq_none (by omega), List.getElem?_eq_none (by omega)]
theorem grid_ext {n : Nat} {f g : Nat → Nat → Int} (h : ∀ i j, i < n → j < n → f i j = g i j) : grid n f = grid n g :=
  ext_cells (grid_length n f) (grid_length n g) fun i j hi hj => by rw [grid_get f hi hj, grid_get g hi hj, h i j hi hj]
theorem step_inj {n i j p q : Nat} (hj : j < n) (hq : q < n) (h : i * n + j = p * n + q) : i = p ∧ j = q := by
  have h1 : (i * n + j) / n = (p * n + q) / n := by rw [h]
  have h2 : (i * n + j) % n = (p * n + q) % n := by rw [h]
  rw [div_step hj, div_step hq] at h1
  rw [mod_step hj, mod_step hq] at h2
  exact ⟨h1, h2⟩
theorem grid_set {n p q : Nat} (f : Nat → Nat → Int) (v : Int) (hp : p < n) (hq : q < n) : (grid n f).set (p * n + q) v = grid n fun i j => if i = p ∧ j = q then v else f i j := by
  refine ext_cells (by simp [grid_length]) (grid_length _ _) fun i j hi hj => ?_
  rw [grid_get _ hi hj, List.getElem?_set]
  by_cases h : i = p ∧ j = q
  · obtain ⟨rfl, rfl⟩ := h
    rw [if_pos rfl, if_pos (by rw [grid_length]; exact step_lt hi hj), if_pos ⟨rfl, rfl⟩]
  · rw [if_neg (fun e => h (by have := step_inj hq hj e; exact ⟨this.1.symm, this.2.symm⟩)), if_neg h, grid_get f hi hj]
theorem grid_zero (n : Nat) : grid n (fun _ _ => 0) = List.replicate (n * n) 0 := by
  refine ext_cells (grid_length _ _) (by simp) fun i j hi hj => ?_
  rw [grid_get _ hi hj, List.getElem?_replicate, if_pos (step_lt hi hj)]

theorem tells_none {k i j : Nat} (hk : 1 ≤ k) (hk7 : k ≤ 7) (h : ¬ tells k i j = true) (h2 : ¬ tells k j i = true) : i = j := by
  unfold tells at h h2
  rcases (show k = 1 ∨ k = 2 ∨ k = 3 ∨ k = 4 ∨ k = 5 ∨ k = 6 ∨ k = 7 by omega) with rfl | rfl | rfl | rfl | rfl | rfl | rfl <;> simp at h h2 <;> omega
theorem tells_both {k i j : Nat} (hk : k ≠ 1) (hk1 : 1 ≤ k) (hk7 : k ≤ 7) (h : tells k i j = true) (h2 : tells k j i = true) : i = j := by
  unfold tells at h h2
  rcases (show k = 2 ∨ k = 3 ∨ k = 4 ∨ k = 5 ∨ k = 6 ∨ k = 7 by omega) with rfl | rfl | rfl | rfl | rfl | rfl <;> simp at h h2 <;> omega
theorem tells_full (i j : Nat) : tells 1 i j = true := by simp [tells]
theorem val_swap {l : List Int} {k n i j : Nat} (hk : k ≠ 1) (hk1 : 1 ≤ k) (hk7 : k ≤ 7) : val l k n i j = val l k n j i := by
  by_cases h : i = j
  · subst h; rfl
  · unfold val
    by_cases h1 : tells k i j = true
    · have h2 : ¬ tells k j i = true := fun h2 => h (tells_both hk hk1 hk7 h1 h2)
      simp [h1, h2]
    · by_cases h2 : tells k j i = true
      · simp [h1, h2]
      · simp [h1, h2]

theorem unpack_fits {k n : Nat} (hk1 : 1 ≤ k) (hk7 : k ≤ 7) (l : List Int) {i j : Nat} (hi : i < n) (hj : j < n) : bad k n (unpack k n l) i j = false := by
  unfold bad unpack
  rw [cell_grid _ hi hj, cell_grid _ hj hi, cell_grid _ hi hi]
  have h1 : (decide (k ≠ 1) && decide (val l k n i j ≠ val l k n j i)) = false := by
    by_cases hk : k = 1
    · simp [hk]
    · simp [val_swap (l := l) (n := n) (i := i) (j := j) hk hk1 hk7]
  have h2 : (!tells k i i && decide (val l k n i i ≠ 0)) = false := by
    by_cases h : tells k i i = true
    · simp [h]
    · simp [val, h]
  rw [h1, h2]; simp
theorem pack_length (k n : Nat) (m : List Int) : (pack k n m).length = (places k n).length := by simp [pack]
theorem pack_rank {k n i j : Nat} (m : List Int) (hi : i < n) (hj : j < n) (h : tells k i j = true) : (pack k n m).getD (rank k n i j) 0 = cell m n i j := by
  simp [pack, List.getD, rank_at hi hj h]
theorem pack_unpack {k n : Nat} {l : List Int} (hl : l.length = (places k n).length) : pack k n (unpack k n l) = l := by
  apply List.ext_getElem?
  intro c
  by_cases hc : c < (places k n).length
  · obtain ⟨i, j, hi, hj, ht, hr⟩ := rank_all hc
    have h1 := rank_at hi hj ht
    rw [hr] at h1
    simp only [pack, List.getElem?_map, h1, Option.map_some]
    rw [unpack, cell_grid _ hi hj, val, if_pos ht, hr]
    simp [List.getD, List.getElem?_eq_getElem (show c < l.length by omega)]
  · rw [List.getElem?_eq_none (by rw [pack_length]; omega), List.getElem?_eq_none (by omega)]
theorem unpack_pack {k n : Nat} {m : List Int} (hk1 : 1 ≤ k) (hk7 : k ≤ 7) (hm : m.length = n * n) (hf : ∀ i j, i < n → j < n → bad k n m i j = false) : unpack k n (pack k n m) = m := by
  refine ext_cells (grid_length _ _) hm fun i j hi hj => ?_
  rw [unpack, grid_get _ hi hj]
  have hc : m[i * n + j]? = some (cell m n i j) := by
    have := step_lt hi hj
    simp [cell, List.getD, List.getElem?_eq_getElem (show i * n + j < m.length by omega)]
  rw [hc]
  congr 1
  unfold val
  by_cases h1 : tells k i j = true
  · rw [if_pos h1, pack_rank m hi hj h1]
  · rw [if_neg h1]
    have hb := hf i j hi hj
    by_cases h2 : tells k j i = true
    · rw [if_pos h2, pack_rank m hj hi h2]
      have hk : k ≠ 1 := fun e => h1 (by rw [e]; exact tells_full i j)
      simp only [bad, Bool.or_eq_false_iff, Bool.and_eq_false_iff] at hb
      rcases hb.1 with h | h
      · exact absurd hk (by simpa using h)
      · have : cell m n i j = cell m n j i := by simpa using h
        exact this.symm
    · rw [if_neg h2]
      have e := tells_none hk1 hk7 h1 h2
      subst e
      simp only [bad, Bool.or_eq_false_iff] at hb
      have h3 : tells k i i = false := by simpa using h1
      have := hb.2
      rw [h3] at this
      have h4 : cell m n i i = 0 := by simpa using this
      exact h4.symm

/-! The loops of the document's own answer: step by step. -/
/-- Which step tells row i and column j. -/
def stepOf (k n i j : Nat) : Nat := (cellAt k (i, j)).1 * n + (cellAt k (i, j)).2
def valUpto (l : List Int) (k n s i j : Nat) : Int :=
  if tells k i j = true ∧ stepOf k n i j < s then l.getD (rank k n i j) 0
  else if k ≠ 1 ∧ tells k j i = true ∧ stepOf k n j i < s then l.getD (rank k n j i) 0 else 0
def matUpto (l : List Int) (k n s : Nat) : List Int := grid n (valUpto l k n s)
theorem matUpto_zero (l : List Int) (k n : Nat) : matUpto l k n 0 = List.replicate (n * n) 0 := by
  rw [← grid_zero]
  exact grid_ext fun i j _ _ => by simp [valUpto]
theorem stepOf_lt {k n i j : Nat} (hi : i < n) (hj : j < n) : stepOf k n i j < n * n := by
  obtain ⟨h1, h2⟩ := cellAt_lt (k := k) hi hj
  exact step_lt h1 h2
theorem matUpto_all (l : List Int) {k n : Nat} : matUpto l k n (n * n) = unpack k n l :=
  grid_ext fun i j hi hj => by
    have h1 := stepOf_lt (k := k) hi hj
    have h2 := stepOf_lt (k := k) hj hi
    unfold valUpto val
    by_cases h : tells k i j = true
    · simp [h, h1]
    · by_cases hk : k = 1
      · subst hk; exact absurd (tells_full i j) h
      · simp [h, hk, h2]
theorem stepOf_eq {k n i j a b : Nat} (hi : i < n) (hj : j < n) (hb : b < n) : stepOf k n i j = a * n + b ↔ (i, j) = cellAt k (a, b) := by
  obtain ⟨_, h2⟩ := cellAt_lt (k := k) hi hj
  constructor
  · intro h
    have h3 := step_inj h2 hb h
    have h4 : cellAt k (i, j) = (a, b) := Prod.ext h3.1 h3.2
    rw [← h4, cellAt_cellAt]
  · intro h
    unfold stepOf
    rw [h, cellAt_cellAt]
theorem matUpto_none {l : List Int} {k n a b : Nat} (hb : b < n) (h : told k a b = false) : matUpto l k n (a * n + b + 1) = matUpto l k n (a * n + b) :=
  grid_ext fun i j hi hj => by
    have key : ∀ p q, p < n → q < n → tells k p q = true → (stepOf k n p q < a * n + b + 1 ↔ stepOf k n p q < a * n + b) := by
      intro p q hp hq ht
      have : stepOf k n p q ≠ a * n + b := fun e => by
        have e2 := (stepOf_eq hp hq hb).1 e
        unfold told at h
        rw [← e2] at h
        rw [ht] at h
        cases h
      omega
    unfold valUpto
    have e1 : (tells k i j = true ∧ stepOf k n i j < a * n + b + 1) ↔ (tells k i j = true ∧ stepOf k n i j < a * n + b) := by
      constructor
      · exact fun h => ⟨h.1, (key i j hi hj h.1).1 h.2⟩
      · exact fun h => ⟨h.1, (key i j hi hj h.1).2 h.2⟩
    have e2 : (k ≠ 1 ∧ tells k j i = true ∧ stepOf k n j i < a * n + b + 1) ↔ (k ≠ 1 ∧ tells k j i = true ∧ stepOf k n j i < a * n + b) := by
      constructor
      · exact fun h => ⟨h.1, h.2.1, (key j i hj hi h.2.1).1 h.2.2⟩
      · exact fun h => ⟨h.1, h.2.1, (key j i hj hi h.2.1).2 h.2.2⟩
    simp only [e1, e2]
theorem rank_step {k n i j : Nat} : rank k n i j = (toldUpto k n (stepOf k n i j)).length := rfl
theorem matUpto_told {l : List Int} {k n a b i j : Nat} (hk1 : 1 ≤ k) (hk7 : k ≤ 7) (ha : a < n) (hb : b < n) (hc : cellAt k (a, b) = (i, j)) (h : told k a b = true) :
    matUpto l k n (a * n + b + 1) = if k = 1 then (matUpto l k n (a * n + b)).set (i * n + j) (l.getD (toldUpto k n (a * n + b)).length 0)
      else ((matUpto l k n (a * n + b)).set (i * n + j) (l.getD (toldUpto k n (a * n + b)).length 0)).set (j * n + i) (l.getD (toldUpto k n (a * n + b)).length 0) := by
  have hij : i < n ∧ j < n := by have := cellAt_lt (k := k) ha hb; rw [hc] at this; exact this
  have ht : tells k i j = true := by unfold told at h; rw [hc] at h; exact h
  have hs : stepOf k n i j = a * n + b := (stepOf_eq hij.1 hij.2 hb).2 hc.symm
  have hr : rank k n i j = (toldUpto k n (a * n + b)).length := by rw [rank_step, hs]
  have step : ∀ p q, p < n → q < n → (stepOf k n p q < a * n + b + 1 ↔ stepOf k n p q < a * n + b ∨ (p = i ∧ q = j)) := by
    intro p q hp hq
    have := stepOf_eq (k := k) (a := a) hp hq hb
    rw [hc, Prod.mk.injEq] at this
    omega
  rw [← hr]
  unfold matUpto
  by_cases hk : k = 1
  · rw [if_pos hk, grid_set _ _ hij.1 hij.2]
    refine grid_ext fun p q hp hq => ?_
    subst hk
    unfold valUpto
    simp only [tells_full, true_and, step p q hp hq, ne_eq, not_true_eq_false, false_and, if_false]
    by_cases e : p = i ∧ q = j
    · simp [e]
    · simp [e]
  · rw [if_neg hk, grid_set _ _ hij.1 hij.2, grid_set _ _ hij.2 hij.1]
    refine grid_ext fun p q hp hq => ?_
    unfold valUpto
    simp only [step p q hp hq, step q p hq hp]
    by_cases e1 : p = i ∧ q = j
    · obtain ⟨rfl, rfl⟩ := e1
      by_cases e2 : p = q
      · subst e2; simp [ht]
      · have : ¬ (p = q ∧ q = p) := fun e => e2 e.1
        simp [ht, this]
    · by_cases e2 : p = j ∧ q = i
      · obtain ⟨rfl, rfl⟩ := e2
        have hn : ¬ tells k p q = true := fun h3 => e1 (by have := tells_both hk hk1 hk7 h3 ht; exact ⟨this, this.symm⟩)
        simp [hn, hk, ht]
      · have e3 : ¬ (q = i ∧ p = j) := fun e => e2 ⟨e.2, e.1⟩
        simp only [e1, e2, e3, or_false, if_false, hk, ne_eq, not_false_eq_true, true_and]
/-- What is packed behind the first s steps. -/
def packUpto (m : List Int) (k n s : Nat) : List Int := (toldUpto k n s).map fun q => cell m n q.1 q.2
theorem packUpto_zero (m : List Int) (k n : Nat) : packUpto m k n 0 = [] := by simp [packUpto, toldUpto_zero]
theorem packUpto_all (m : List Int) (k n : Nat) : packUpto m k n (n * n) = pack k n m := by simp [packUpto, pack, toldUpto_all]
theorem packUpto_next {m : List Int} {k n a b i j : Nat} (ha : a < n) (hb : b < n) (hc : cellAt k (a, b) = (i, j)) :
    packUpto m k n (a * n + b + 1) = packUpto m k n (a * n + b) ++ if told k a b = true then [cell m n i j] else [] := by
  unfold packUpto told
  rw [toldUpto_next ha hb, hc]
  by_cases h : tells k i j = true <;> simp [h]
/-- May a matrix be told in a layout? -/
def fits (k n : Nat) (m : List Int) : Prop := ∀ i j, i < n → j < n → bad k n m i j = false
def fitsUpto (k n : Nat) (m : List Int) (s : Nat) : Prop := ∀ i j, i < n → j < n → stepOf k n i j < s → bad k n m i j = false
theorem fitsUpto_zero (k n : Nat) (m : List Int) : fitsUpto k n m 0 := fun _ _ _ _ h => absurd h (by omega)
theorem fitsUpto_all {k n : Nat} {m : List Int} : fitsUpto k n m (n * n) ↔ fits k n m := ⟨fun h i j hi hj => h i j hi hj (stepOf_lt hi hj), fun h i j hi hj _ => h i j hi hj⟩
theorem fitsUpto_next {k n a b i j : Nat} {m : List Int} (hb : b < n) (hc : cellAt k (a, b) = (i, j)) (h : fitsUpto k n m (a * n + b)) (hg : bad k n m i j = false) : fitsUpto k n m (a * n + b + 1) := by
  intro p q hp hq hs
  by_cases e : stepOf k n p q = a * n + b
  · have := (stepOf_eq hp hq hb).1 e
    rw [hc] at this
    cases this
    exact hg
  · exact h p q hp hq (by omega)
theorem not_fits {k n a b i j : Nat} {m : List Int} (ha : a < n) (hb : b < n) (hc : cellAt k (a, b) = (i, j)) (hg : bad k n m i j = true) : ¬ fits k n m := fun h => by
  have hij : i < n ∧ j < n := by have := cellAt_lt (k := k) ha hb; rw [hc] at this; exact this
  rw [h i j hij.1 hij.2] at hg
  cases hg

/-! Upper rows are lower columns. -/
theorem rowUp_told {k k' : Nat} (h : ∀ a b, told k a b = told k' a b) (a b : Nat) : rowUp k a b = rowUp k' a b := by
  induction b with
  | zero => rfl
  | succ b ih => rw [rowUp, rowUp, ih, h]
theorem rowsUp_told {k k' : Nat} (h : ∀ a b, told k a b = told k' a b) (n a : Nat) : rowsUp k n a = rowsUp k' n a := by
  induction a with
  | zero => rfl
  | succ a ih => rw [rowsUp, rowsUp, ih, rowUp_told h]
theorem rank_turn {k k' n i j : Nat} (h : ∀ a b, told k a b = told k' a b) (hc : cellAt k (i, j) = cellAt k' (j, i)) (hi : i < n) (hj : j < n) : rank k n i j = rank k' n j i := by
  unfold rank
  obtain ⟨h1, h2⟩ := cellAt_lt (k := k) hi hj
  rw [← hc, len_at h1 (by omega), len_at h1 (by omega), rowsUp_told h, rowUp_told h]
theorem unpack_turn {k k' n : Nat} (l : List Int) (hk : k' ≠ 1) (hk1 : 1 ≤ k') (hk7 : k' ≤ 7) (h : ∀ a b, told k a b = told k' a b) (hc : ∀ i j, cellAt k (i, j) = cellAt k' (j, i)) (ht : ∀ i j, tells k i j = tells k' j i) : unpack k n l = unpack k' n l :=
  grid_ext fun i j hi hj => by
    rw [val_swap (k := k') hk hk1 hk7]
    unfold val
    rw [ht i j, ht j i, rank_turn h (hc i j) hi hj, rank_turn h (hc j i) hj hi]
theorem unpack_seven (n : Nat) (l : List Int) : unpack 7 n l = unpack 2 n l :=
  unpack_turn l (by omega) (by omega) (by omega) (fun a b => by rw [told_up (.inr rfl), told_up (.inl rfl)]) (fun i j => by simp [cellAt]) (fun i j => by simp [tells])
theorem unpack_six (n : Nat) (l : List Int) : unpack 6 n l = unpack 3 n l :=
  unpack_turn l (by omega) (by omega) (by omega) (fun a b => by rw [told_low (.inr rfl), told_low (.inl rfl)]) (fun i j => by simp [cellAt]) (fun i j => by simp [tells])
/-- A matrix of upper rows may be told in every layout but the one of all. -/
theorem upper_fits {k n : Nat} (l : List Int) : fits k n (unpack 2 n l) := by
  intro i j hi hj
  have h := unpack_fits (k := 2) (by omega) (by omega) l hi hj
  have h0 := unpack_fits (k := 2) (by omega) (by omega) l hi hi
  simp only [bad, Bool.or_eq_false_iff] at h h0
  have e1 : cell (unpack 2 n l) n i j = cell (unpack 2 n l) n j i := by simpa using h.1
  have e2 : cell (unpack 2 n l) n i i = 0 := by have := h0.2; simp [tells] at this; exact this
  simp [bad, e1, e2]
theorem count_up (n : Nat) : count 4 n = count 2 n + n := by
  have h1 := tri_half n
  have h2 := tri_half' n
  simp only [count] at *
  simp
  rw [h1, h2, tri]

/-! Each place once. -/
/-- How many of the first s steps stand at place x, mirrored ones once. -/
def hits (k n s x : Nat) : Nat := ((pairs n).take s).countP fun p => (decide (p.1 ≤ p.2) || decide (k = 1)) && decide (index k n p.1 p.2 = (x : Int))
theorem hits_zero (k n x : Nat) : hits k n 0 x = 0 := by simp [hits]
theorem hits_next {k n a b x : Nat} (ha : a < n) (hb : b < n) :
    hits k n (a * n + b + 1) x = hits k n (a * n + b) x + if ((decide (a ≤ b) || decide (k = 1)) && decide (index k n a b = (x : Int))) = true then 1 else 0 := by
  unfold hits
  rw [List.take_add_one, pairs_get ha hb, Option.toList_some, List.countP_append, List.countP_singleton]
theorem countP_one {α : Type} {l : List α} {P : α → Bool} {x : α} (hl : l.Nodup) (hx : x ∈ l) (hP : P x = true) (hu : ∀ y ∈ l, P y = true → y = x) : l.countP P = 1 := by
  induction l with
  | nil => cases hx
  | cons y r ih =>
    rw [List.nodup_cons] at hl
    rcases List.mem_cons.1 hx with rfl | hx'
    · rw [List.countP_cons_of_pos hP]
      have : r.countP P = 0 := by
        rw [List.countP_eq_zero]
        intro z hz hPz
        exact hl.1 (hu z (List.mem_cons_of_mem _ hz) hPz ▸ hz)
      omega
    · have hy : ¬ P y = true := fun h => hl.1 (hu y (List.mem_cons_self ..) h ▸ hx')
      rw [List.countP_cons_of_neg hy]
      exact ih hl.2 hx' fun z hz h => hu z (List.mem_cons_of_mem _ hz) h
theorem index_told {k n i j : Nat} (h : tells k i j = true) : index k n i j = (rank k n i j : Int) := by unfold index; rw [if_pos h]
theorem hits_all {k n x : Nat} (hk1 : 1 ≤ k) (hk7 : k ≤ 7) (hx : x < (places k n).length) : hits k n (n * n) x = 1 := by
  obtain ⟨p, q, hp, hq, ht, hr⟩ := rank_all hx
  have hI : index k n p q = (x : Int) := by rw [index_told ht, hr]
  unfold hits
  rw [List.take_of_length_le (by rw [pairs_length]; exact Nat.le_refl _)]
  have uniq : ∀ a b, a < n → b < n → index k n a b = (x : Int) → (a = p ∧ b = q) ∨ (k ≠ 1 ∧ a = q ∧ b = p) := by
    intro a b ha hb h
    unfold index at h
    by_cases h1 : tells k a b = true
    · rw [if_pos h1] at h
      exact .inl (rank_inj ha hb hp hq h1 ht (by omega))
    · rw [if_neg h1] at h
      have hk : k ≠ 1 := fun e => h1 (by rw [e]; exact tells_full a b)
      by_cases h2 : tells k b a = true
      · rw [if_pos h2] at h
        have := rank_inj hb ha hp hq h2 ht (by omega)
        exact .inr ⟨hk, this.2, this.1⟩
      · rw [if_neg h2] at h; omega
  by_cases hk : k = 1
  · refine countP_one (x := (p, q)) (pairs_nodup n) (mem_pairs.2 ⟨hp, hq⟩) (by simp [hk]; rw [← hk]; exact hI) ?_
    rintro ⟨a, b⟩ hm h
    have hab := mem_pairs.1 hm
    simp only [Bool.and_eq_true, decide_eq_true_eq] at h
    rcases uniq a b hab.1 hab.2 h.2 with ⟨rfl, rfl⟩ | ⟨h3, _⟩
    · rfl
    · exact absurd hk h3
  · by_cases hpq : p ≤ q
    · refine countP_one (x := (p, q)) (pairs_nodup n) (mem_pairs.2 ⟨hp, hq⟩) (by simp [hpq, hI]) ?_
      rintro ⟨a, b⟩ hm h
      have hab := mem_pairs.1 hm
      simp only [Bool.and_eq_true, Bool.or_eq_true, decide_eq_true_eq] at h
      rcases uniq a b hab.1 hab.2 h.2 with ⟨rfl, rfl⟩ | ⟨_, rfl, rfl⟩
      · rfl
      · have : a = b := by omega
        subst this; rfl
    · refine countP_one (x := (q, p)) (pairs_nodup n) (mem_pairs.2 ⟨hq, hp⟩) (by simp [index_swap hk hk1 hk7, hI]; exact .inl (by omega)) ?_
      rintro ⟨a, b⟩ hm h
      have hab := mem_pairs.1 hm
      simp only [Bool.and_eq_true, Bool.or_eq_true, decide_eq_true_eq] at h
      rcases uniq a b hab.1 hab.2 h.2 with ⟨rfl, rfl⟩ | ⟨_, rfl, rfl⟩
      · omega
      · rfl
#print axioms pack_unpack
#print axioms unpack_pack
#print axioms matUpto_told
#print axioms upper_fits
#print axioms hits_all
end Go.Layout
/- The document's own answers for layer 7 on places: may, tells, row, column, at, Index, Count. Conditions: where a layout is asked of, that it is one. -/
namespace Go.Layout
def mayB (k n : Int) : Bool := (decide (1 ≤ k) && decide (k ≤ 7)) && (decide (1 ≤ n) && decide (n ≤ 400))
theorem mayB_true {k n : Int} (h : mayB k n = true) : (1 ≤ k ∧ k ≤ 7) ∧ 1 ≤ n ∧ n ≤ 400 := by simpa [mayB] using h
theorem mayB_nat {k n : Nat} (h1 : 1 ≤ k) (h2 : k ≤ 7) (h3 : 1 ≤ n) (h4 : n ≤ 400) : mayB k n = true := by simp [mayB]; omega
theorem rowUp_le (k a b : Nat) : rowUp k a b ≤ b := by
  induction b with
  | zero => exact Nat.le_refl _
  | succ b ih => rw [rowUp]; split <;> omega
theorem rowsUp_le (k n a : Nat) : rowsUp k n a ≤ a * n := by
  induction a with
  | zero => simp [rowsUp]
  | succ a ih => have := rowUp_le k a n; rw [rowsUp, Nat.add_mul]; omega
theorem told_row {k a b : Nat} (hk : k ≠ 6) (hk2 : k ≠ 7) : told k a b = tells k a b := by simp [told, cellAt, hk, hk2]
theorem told_col {k a b : Nat} (hk : k = 6 ∨ k = 7) : told k a b = tells k b a := by simp [told, cellAt, hk]
theorem rank_row {k n i j : Nat} (hk : k ≠ 6) (hk2 : k ≠ 7) (hi : i < n) (hj : j < n) : rank k n i j = rowsUp k n i + rowUp k i j := by
  unfold rank
  have : cellAt k (i, j) = (i, j) := by simp [cellAt, hk, hk2]
  rw [this, len_at hi (by omega)]
theorem rank_col {k n i j : Nat} (hk : k = 6 ∨ k = 7) (hi : i < n) (hj : j < n) : rank k n i j = rowsUp k n j + rowUp k j i := by
  unfold rank
  have : cellAt k (i, j) = (j, i) := by simp [cellAt, hk]
  rw [this, len_at hj (by omega)]
end Go.Layout
namespace Go.Proofs
open Go.RowKit Go.Shelf Go.Layout
attribute [local go_sem] Oper.semAt_some

theorem lret_is {a b : Bool} (h : a = b) : Ending.returned (.bool a) = .returned (.bool b) := by rw [h]
theorem lret_num {a b : Int} (h : a = b) : Ending.returned (.int .i64 a) = .returned (.int .i64 b) := by rw [h]



end Go.Proofs
/- Slices of ints: what they hold; the document's own Ints of layer 7. Conditions: at most two million numbers. -/
namespace Go.Proofs
open Go.RowKit Go.Shelf Go.Layout
attribute [local go_sem] Oper.semAt_some

/-- The cells of a list's numbers, from an address on. -/
def IntAt (W : World) (b off : Nat) (l : List Int) : Prop := b < W.heap.size ∧ ∀ i x, l[i]? = some x → W.cell? ⟨b, off + i, none⟩ = some (.int .i64 x)
/-- A slice that reads as l. -/
def HasInts (W : World) (v : Value) (l : List Int) : Prop := (l = [] ∧ ∃ ao cap, v = .slice ao 0 cap) ∨ ∃ b off cap, v = .slice (some ⟨b, off, none⟩) l.length cap ∧ l.length ≤ cap ∧ cap ≤ maxLen ∧ IntAt W b off l
theorem IntAt.below {B b off : Nat} {W W' : World} {l : List Int} (h : IntAt W b off l) (hb : Below B W W') (hlt : b < B) : IntAt W' b off l :=
  ⟨Nat.lt_of_lt_of_le h.1 hb.size, fun i x hi => (hb.cell (p := ⟨b, off + i, none⟩) hlt).trans (h.2 i x hi)⟩
theorem IntAt.next {b off : Nat} {W W' : World} {l : List Int} (h : IntAt W b off l) (hb : Below W.heap.size W W') : IntAt W' b off l := h.below hb h.1
theorem HasInts.next {W W' : World} {v : Value} {l : List Int} (h : HasInts W v l) (hb : Below W.heap.size W W') : HasInts W' v l := by
  rcases h with h | ⟨b, off, cap, h1, h2, h3, h4⟩
  · exact .inl h
  · exact .inr ⟨b, off, cap, h1, h2, h3, h4.next hb⟩
theorem HasInts.nil (W : World) : HasInts W (.slice none 0 0) [] := .inl ⟨rfl, none, 0, rfl⟩
theorem HasInts.len {W : World} {v : Value} {l : List Int} (h : HasInts W v l) : ∃ ao cap, v = .slice ao l.length cap := by
  rcases h with ⟨rfl, ao, cap, rfl⟩ | ⟨b, off, cap, rfl, _⟩
  · exact ⟨ao, cap, rfl⟩
  · exact ⟨_, cap, rfl⟩
def intV (x : Int) : Value := .int .i64 x
theorem hasInts_of_owns {W : World} {base : Nat} {e : TypeId} {v : Value} {l : List Int} (h : W.ownsRow base e 1 v l.length (l.map intV)) : HasInts W v l := by
  rcases h.2 with ⟨rfl, h0⟩ | ⟨g, cap, cur, rfl, h1, h2, h3, h4, _⟩
  · exact .inl ⟨List.eq_nil_of_length_eq_zero h0, none, 0, rfl⟩
  · refine .inr ⟨g, 0, cap, rfl, h3, h4, (Array.getElem?_eq_some_iff.1 h2).1, fun i x hi => ?_⟩
    have hlt : i < l.length := (List.getElem?_eq_some_iff.1 hi).1
    rw [Nat.zero_add, World.ownsRow.cellAt h i (by omega)]
    simp [hi, intV]

theorem lbelow_drewN {B : Nat} {a w : World} (h : Below B a w) (n : Nat) : Below B a (w.drewN n) := ⟨h.os, h.tape, h.output, h.size, h.block⟩
theorem take_same {l r : List Int} {k : Nat} {x y : Int} (hl : l[k]? = some x) (hr : r[k]? = some y) (h : l.take k = r.take k) : l.take (k + 1) = r.take (k + 1) ↔ x = y := by
  rw [List.take_add_one, List.take_add_one, hl, hr, h]
  simp
theorem ne_at {l r : List Int} {k : Nat} {x y : Int} (hl : l[k]? = some x) (hr : r[k]? = some y) (h : x ≠ y) : l ≠ r := fun e => h (by rw [e, hr] at hl; exact (Option.some.inj hl).symm)

set_option maxRecDepth 100000 in
set_option maxHeartbeats 1000000 in
theorem Try.RInts_some (b off cap b' off' cap' : Nat) (l r : List Int) (w : World) (hl : l.length ≤ 2000000) (he : l.length = r.length) (hv : IntAt w b off l) (hu : IntAt w b' off' r) :
    Calls Try.prog 19 #[.slice (some ⟨b, off, none⟩) l.length cap, .slice (some ⟨b', off', none⟩) r.length cap'] w fun e w' => e = .returned (.bool (decide (l = r))) ∧ Below w.heap.size w w' := by
  have HV := Lib.hid hv
  have HU := Lib.hid hu
  rw [← he]
  obtain ⟨n, hn⟩ : ∃ n, l.length = n := ⟨_, rfl⟩
  rw [hn] at hl he ⊢
  have HN := Lib.hid hn
  have HE := Lib.hid he
  clear hn he hv hu
  go_enter Try.func19, Try.ntmps19
  go_wp2
  go_loopw [5] (fun i wr => ∃ k : Nat, k ≤ n ∧ i = .int .i64 (k : Int) ∧ Hid (l.take k = r.take k) ∧ Below w.heap.size w wr) (fun i _ => n - (intOf i).toNat)
  case atStart => exact ⟨0, Nat.zero_le _, rfl, rfl, Below.refl _ _⟩
  case round =>
    obtain ⟨k, hk, rfl, hT, hB⟩ := hrel
    by_cases hlt : k < n
    · obtain ⟨x, hx⟩ : ∃ x, l[k]? = some x := ⟨_, List.getElem?_eq_getElem (by have := HN.out; omega)⟩
      obtain ⟨y, hy⟩ : ∃ y, r[k]? = some y := ⟨_, List.getElem?_eq_getElem (by have := HE.out; omega)⟩
      have x0 := (hB.cell (p := ⟨b, off + k, none⟩) HV.out.1).trans (HV.out.2 k x hx)
      have y0 := (hB.cell (p := ⟨b', off' + k, none⟩) HU.out.1).trans (HU.out.2 k y hy)
      have hki : (k : Int) < (n : Int) := by omega
      by_cases hxy : x = y
      · subst hxy
        have d : (x != x) = false := bne_self_eq_false x
        have HT := Lib.hid ((take_same hx hy hT.out).2 rfl)
        clear hx hy hT
        go_wp2
        go_quiet (fail)
        go_wp2
        go_roundw
        case rel => exact ⟨k + 1, by omega, by go_num, HT, lbelow_drewN hB _⟩
        case measure => simp [intOf]; omega
      · have d : (x != y) = true := bne_iff_ne.2 hxy
        have HF := Lib.hid (decide_eq_false (ne_at hx hy hxy))
        clear hx hy hT hxy
        go_wp2
        go_quiet (fail)
        go_wp2
        go_ret
        exact ⟨lret_is HF.out.symm, lbelow_drewN hB _⟩
    · obtain rfl : k = n := by omega
      have HF : Hid (decide (l = r) = true) := by
        unfold Hid
        have h := hT.out
        rw [List.take_of_length_le (by have := HN.out; omega), List.take_of_length_le (by have := HE.out; omega)] at h
        exact decide_eq_true h
      go_wp2
      go_ret
      exact ⟨lret_is HF.out.symm, hB⟩

set_option maxRecDepth 100000 in
theorem Try.RInts_far (ao ao' : Option Addr) (n n' cap cap' : Nat) (w : World) (h : n ≠ n') :
    Calls Try.prog 19 #[.slice ao n cap, .slice ao' n' cap'] w fun e w' => e = .returned (.bool false) ∧ w' = w := by
  have d : ((n : Int) != (n' : Int)) = true := bne_iff_ne.2 (by omega)
  go_enter Try.func19, Try.ntmps19
  go_wp2
  go_ret
  exact ⟨rfl, rfl⟩
set_option maxRecDepth 100000 in
theorem Try.RInts_nil (ao ao' : Option Addr) (cap cap' : Nat) (w : World) :
    Calls Try.prog 19 #[.slice ao 0 cap, .slice ao' 0 cap'] w fun e w' => e = .returned (.bool true) ∧ w' = w := by
  go_enter Try.func19, Try.ntmps19
  go_wp2
  go_loop [5] (fun i => i = .int .i64 0) (fun _ => 0)
  case atStart => rfl
  case round =>
    obtain rfl := hrel
    go_wp2
    go_ret
    exact ⟨rfl, rfl⟩
theorem Try.RInts_calls (v u : Value) (l r : List Int) (w : World) (hl : l.length ≤ 2000000) (hv : HasInts w v l) (hu : HasInts w u r) :
    Calls Try.prog 19 #[v, u] w fun e w' => e = .returned (.bool (decide (l = r))) ∧ Below w.heap.size w w' := by
  by_cases he : l.length = r.length
  · rcases hv with ⟨rfl, ao, cap, rfl⟩ | ⟨b, off, cap, rfl, _, _, hv⟩
    · have hr : r = [] := List.eq_nil_of_length_eq_zero (by simpa using he.symm)
      subst hr
      obtain ⟨ao', cap', rfl⟩ := hu.len
      exact (Try.RInts_nil ao ao' cap cap' w).mono fun e w' ⟨h1, h2⟩ => ⟨by rw [h1]; rfl, h2 ▸ Below.refl _ _⟩
    · rcases hu with ⟨rfl, ao', cap', rfl⟩ | ⟨b', off', cap', rfl, _, _, hu⟩
      · have hr : l = [] := List.eq_nil_of_length_eq_zero (by simpa using he)
        subst hr
        exact (Try.RInts_nil _ ao' cap cap' w).mono fun e w' ⟨h1, h2⟩ => ⟨by rw [h1]; rfl, h2 ▸ Below.refl _ _⟩
      · exact Try.RInts_some b off cap b' off' cap' l r w hl he hv hu
  · obtain ⟨ao, cap, rfl⟩ := hv.len
    obtain ⟨ao', cap', rfl⟩ := hu.len
    exact (Try.RInts_far ao ao' _ _ cap cap' w he).mono fun e w' ⟨h1, h2⟩ => ⟨by rw [h1, decide_eq_false (fun e => he (by rw [e]))], h2 ▸ Below.refl _ _⟩
#print axioms Try.RInts_calls
end Go.Proofs
/- The document's own Ints of layer 13. Conditions: a text of at most a million bytes, as many words at most. -/
namespace Go.Sheet
open Go.Wds Go.Proofs Go.Fx
theorem rdI_ok {s : ByteArray} {l : List (Nat × Nat)} {k : Nat} {w : Nat × Nat} (h : l[k]? = some w) (ha : ∀ v ∈ l.take k, (rdI s v).2 = 0) (hb : (rdI s w).2 = 0) : ∀ v ∈ l.take (k + 1), (rdI s v).2 = 0 := by
  intro v hv
  rw [Go.Wds.take_get h, List.mem_append] at hv
  rcases hv with hv | hv
  · exact ha v hv
  · obtain rfl : v = w := by simpa using hv
    exact hb
end Go.Sheet
namespace Go.Proofs
open Go.RowKit Go.Shelf Go.Cur Go.Wds Go.Sheet Go.Fx
attribute [local go_sem] Oper.semAt_some
theorem Try.sinfo3 : (Try.prog.info? 3).map (fun i => (i.zero, i.size, i.bytes)) = some (some (.int .i64 0), 1, 8) := by kernel_rfl
/-- The document's own Int at a word. -/
theorem Try.rIntW (s : ByteArray) (w : Nat × Nat) (hs : s.size ≤ 1000000) (W : World) :
    Calls Try.prog 37 #[.string (wordT s w)] W fun e w' => e = .returned (.tuple #[.int .i64 (rdI s w).1, .int .i64 (rdI s w).2]) ∧ W = w' := by
  have h := int_same (wordT s w).data.toList
  have := Try.rInt_any (wordT s w) (by have := wordT_size s w; omega) W
  rw [← h.1, ← h.2] at this
  exact this
/-- A row's box, and the box of what is wrong. -/
structure IvS (w : World) (f : Nat) (v : Value) (W : World) : Prop where
  below : Below w.heap.size w W
  box : W.heap[w.heap.size]? = some (.cells #[.int .i64 (f : Nat), v] 36)
  res : W.heap[w.heap.size + 1]? = some (.cells #[.int .i64 0, .int .i64 0] 41)
theorem IvS.next {w W W' : World} {f : Nat} {v : Value} (h : IvS w f v W) (hb : Below W.heap.size W W') : IvS w f v W' :=
  ⟨h.below.trans (hb.mono h.below.size), (hb.block _ (Array.getElem?_eq_some_iff.1 h.box).1).trans h.box, (hb.block _ (Array.getElem?_eq_some_iff.1 h.res).1).trans h.res⟩
theorem IvS.lt {w W : World} {f : Nat} {v : Value} (h : IvS w f v W) : w.heap.size + 1 < W.heap.size := (Array.getElem?_eq_some_iff.1 h.res).1
theorem IvS.new (w : World) (f : Nat) (v : Value) : IvS w f v ((w.alloc (.cells #[.int .i64 (f : Nat), v] 36)).alloc (.cells #[.int .i64 0, .int .i64 0] 41)) := by
  have e := World.alloc_heap_new (w.alloc (.cells #[.int .i64 (f : Nat), v] 36)) (.cells #[.int .i64 0, .int .i64 0] 41)
  rw [World.size_alloc] at e
  have h1 := fbelow_box_s (w.alloc (.cells #[.int .i64 (f : Nat), v] 36)) (.cells #[.int .i64 0, .int .i64 0] 41)
  exact ⟨(fbelow_box_s w _).trans (h1.mono (by simp)), (h1.block _ (by simp)).trans (World.alloc_heap_new _ _), e⟩
theorem IvS.cells {w W : World} {f : Nat} {v : Value} (h : IvS w f v W) : W.cell? ⟨w.heap.size, 0, none⟩ = some (.int .i64 (f : Nat)) ∧ W.cell? ⟨w.heap.size, 1, none⟩ = some v ∧ W.cell? ⟨w.heap.size + 1, 0, none⟩ = some (.int .i64 0) ∧ W.cell? ⟨w.heap.size + 1, 1, none⟩ = some (.int .i64 0) ∧ W.frozen? ⟨w.heap.size + 1, 0, none⟩ = false ∧ W.frozen? ⟨w.heap.size + 1, 1, none⟩ = false := by
  refine ⟨?_, ?_, ?_, ?_, ?_, ?_⟩
  · unfold World.cell?; rw [h.box]; rfl
  · unfold World.cell?; rw [h.box]; rfl
  · unfold World.cell?; rw [h.res]; rfl
  · unfold World.cell?; rw [h.res]; rfl
  · unfold World.frozen?; rw [h.res]; rfl
  · unfold World.frozen?; rw [h.res]; rfl
theorem IvS.drew {w W : World} {f : Nat} {v : Value} (h : IvS w f v W) : IvS w f v W.drew := h.next (below_drew_s (Below.refl _ _))
set_option maxRecDepth 100000 in
set_option maxHeartbeats 4000000 in
theorem Try.rInts_line (s : ByteArray) (f : Nat) (ws : List (Nat × Nat)) (n : Int) (v : Value) (w : World) (hv : HasWords w v ws) (hne : (ws.length : Int) ≠ n) :
    Calls Try.prog 16 #[.string s, .agg #[.int .i64 (f : Nat), v], .int .i64 n] w fun e w' => e = .returned (.tuple #[.slice none 0 0, .agg #[.int .i64 (f : Nat), .int .i64 3]]) ∧ Below w.heap.size w w' := by
  obtain ⟨av, cv, rfl, hw, _⟩ := hv
  have d : ((ws.length : Int) != n) = true := bne_iff_ne.2 hne
  have HS := IvS.new w f (.slice av ws.length cv)
  have HSD := Lib.hid HS.drew
  clear hw hne
  generalize ws.length = L at *
  go_enter Try.func16, Try.ntmps16
  go_upto_region 2 with (fail)
  obtain ⟨V, hV⟩ : ∃ V, V = ((w.alloc (.cells #[.int .i64 (f : Nat), .slice av L cv] 36)).alloc (.cells #[.int .i64 0, .int .i64 0] 41)) := ⟨_, rfl⟩
  rw [← hV] at HS HSD ⊢
  clear hV
  obtain ⟨x0, x1, r0, r1, f0, f1⟩ := HS.cells
  have hsz := HS.lt
  have HB := Lib.hid HS.below
  clear HS HSD
  go_region
  go_wp2
  exact bodyPost_ret (v := .tuple #[.slice none 0 0, .agg #[.int .i64 (f : Nat), .int .i64 3]]) (by simp [results, Try.results16, go_sem, r0, r1]) rfl ⟨rfl, below_drew_s ((HB.out.setCell (Nat.le_succ _) _).setCell (Nat.le_succ _) _)⟩
theorem own_set_s {W : World} {base : Nat} {e : TypeId} {size : Nat} {v : Value} {k : Nat} {xs : List Value} (h : W.ownsRow base e size v k xs) {a : Addr} (ha : a.block < base) (u : Value) : (W.setCell a u).ownsRow base e size v k xs :=
  h.kept (row := some a.block) ⟨rfl, rfl, rfl, by simp [World.setCell], fun k _ hk => Below.heap_setCell _ _ _ _ (fun e => hk (by rw [e]))⟩ (.inr fun e => by have := (h.lt _ e).1; omega)
/-- What stands in the loop over the words. -/
structure IwS (w : World) (f : Nat) (v o : Value) (l : List Int) (W : World) : Prop where
  b : IvS w f v W
  row : W.ownsRow (w.heap.size + 2) 3 1 o l.length (l.map intV)
theorem IwS.next {w W W' : World} {f : Nat} {v o : Value} {l : List Int} (h : IwS w f v o l W) (hb : Below W.heap.size W W') : IwS w f v o l W' := ⟨h.b.next hb, ownsRow_below h.row hb (Nat.le_refl _)⟩
theorem IwS.grow {w W W' : World} {f : Nat} {v o o' : Value} {l l' : List Int} (h : IwS w f v o l W) (hg : W.grownBy W' o.ownBlock) (hr : W'.ownsRow (w.heap.size + 2) 3 1 o' l'.length (l'.map intV)) : IwS w f v o' l' W' := by
  have hlt := h.b.lt
  have hne : ∀ k, k < w.heap.size + 2 → W'.heap[k]? = W.heap[k]? := fun k hk => hg.block k (by omega) (fun e => by have := (h.row.lt k e.symm).1; omega)
  exact ⟨⟨h.b.below.grown hg (by omega) (fun j e => by have := (h.row.lt j e).1; omega), (hne _ (by omega)).trans h.b.box, (hne _ (by omega)).trans h.b.res⟩, hr⟩
theorem iwS_start {w W : World} {f : Nat} {v : Value} (h : IvS w f v W) : IwS w f v (.slice (some ⟨W.heap.size, 0, none⟩) 0 0) [] (W.alloc (.cells #[] 3)) :=
  ⟨h.next (fbelow_box_s _ _), ownsRow_base (cowns_empty W 3 1) (by have := h.lt; omega)⟩
set_option maxRecDepth 100000 in
set_option maxHeartbeats 4000000 in
theorem Try.rInts_all (s : ByteArray) (f : Nat) (ws : List (Nat × Nat)) (v : Value) (w : World) (hs : s.size ≤ 1000000) (hl : ws.length ≤ 1000000) (hv : HasWords w v ws) :
    Calls Try.prog 16 #[.string s, .agg #[.int .i64 (f : Nat), v], .int .i64 (ws.length : Int)] w fun e w' => ∃ u, e = .returned (.tuple #[u, .agg #[.int .i64 ((takeW (rdI s) ws).2.1 : Nat), .int .i64 (takeW (rdI s) ws).2.2]]) ∧ HasInts w' u (takeW (rdI s) ws).1 ∧ Below w.heap.size w w' := by
  obtain ⟨i0, hio, hz0, hz1, hz2⟩ := info_parts Try.sinfo3
  have HI := Lib.hid hio
  obtain ⟨av, cv, rfl, hw, _⟩ := hv
  have HW := Lib.hid hw
  have HTX : Hid (∀ (a b : Nat) (W : World), Calls Try.prog 34 #[.string s, .agg #[.int .i64 (a : Nat), .int .i64 (b : Nat)]] W fun e w' => e = .returned (.string (wordT s (a, b))) ∧ Below W.heap.size W w') := fun a b W => Try.rText_calls s (a : Nat) (b : Nat) W
  have HRI := Lib.hid fun w W => Try.rIntW s w hs W
  have HBAD : Hid (∀ k w, ws[k]? = some w → (∀ v ∈ ws.take k, (rdI s v).2 = 0) → (rdI s w).2 ≠ 0 → takeW (rdI s) ws = ([], w.1, (rdI s w).2)) := fun k w => takeW_bad
  have HALL : Hid ((∀ v ∈ ws.take ws.length, (rdI s v).2 = 0) → takeW (rdI s) ws = (ws.map fun w => (rdI s w).1, 0, 0)) := fun h => takeW_all (by rw [List.take_length] at h; exact h)
  have HOK : Hid (∀ k w, ws[k]? = some w → (∀ v ∈ ws.take k, (rdI s v).2 = 0) → (rdI s w).2 = 0 → ∀ v ∈ ws.take (k + 1), (rdI s v).2 = 0) := fun k w => rdI_ok
  have HTK : Hid (∀ k w, ws[k]? = some w → (ws.take (k + 1)).map (fun w => (rdI s w).1) = (ws.take k).map (fun w => (rdI s w).1) ++ [(rdI s w).1]) := fun k w h => by rw [Go.Wds.take_get h, List.map_append]; rfl
  have HTA : Hid (ws.take ws.length = ws) := List.take_length
  obtain ⟨n, hn⟩ : ∃ n, ws.length = n := ⟨_, rfl⟩
  have HN := Lib.hid hn
  rw [hn] at hl HALL HTA ⊢
  have HS0 := Lib.hid (IvS.new w f (.slice av n cv))
  have HA0 := Lib.hid (iwS_start HS0.out)
  simp only [World.size_alloc] at HA0
  have hne : ((n : Int) != (n : Int)) = false := by simp
  clear hw hn hio
  generalize takeW (rdI s) ws = R at *
  go_enter Try.func16, Try.ntmps16
  go_wp2
  go_loopw [8, 9] (fun o i wr => ∃ k : Nat, k ≤ n ∧ i = .int .i64 (k : Int) ∧ Hid (∀ v ∈ ws.take k, (rdI s v).2 = 0) ∧ IwS w f (.slice av n cv) o ((ws.take k).map fun w => (rdI s w).1) wr) (fun _ i _ => n - (intOf i).toNat)
  case atStart => exact ⟨0, Nat.zero_le _, rfl, Lib.hid (fun v hv => by simp at hv), HA0.out⟩
  case round =>
    obtain ⟨k, hk, rfl, hG, hS⟩ := hrel
    have HS := Lib.hid hS
    obtain ⟨x0, x1, r0, r1, f0, f1⟩ := hS.b.cells
    have hB := hS.b.below
    clear HS0 HA0 hS
    by_cases hlt : k < n
    · obtain ⟨⟨a, b⟩, hp⟩ : ∃ q, ws[k]? = some q := ⟨_, List.getElem?_eq_getElem (by have := HN.out; omega)⟩
      obtain ⟨g, rfl, hg, e0, e1⟩ := HW.out k a b hp
      have HE0 : Hid (∀ V, Below w.heap.size w V → V.cell? ⟨g, k * 2, none⟩ = some (.int .i64 (a : Nat)) ∧ V.cell? ⟨g, k * 2 + 1, none⟩ = some (.int .i64 (b : Nat))) := fun V hV => ⟨(hV.cell (p := ⟨g, _, none⟩) hg).trans e0, (hV.cell (p := ⟨g, _, none⟩) hg).trans e1⟩
      replace e0 := (HE0.out _ hB).1
      replace e1 := (HE0.out _ hB).2
      have hki : (k : Int) < (n : Int) := by omega
      have HX := Lib.hid fun W => HTX.out a b W
      have HR := Lib.hid fun W => HRI.out (a, b) W
      have hlen : (((ws.take k).map fun w => (rdI s w).1)).length = k := by rw [List.length_map, List.length_take]; have := HN.out; omega
      have HLN := Lib.hid hlen
      by_cases hq : (rdI s (a, b)).2 = 0
      · have HO := Lib.hid (HOK.out k _ hp hG.out hq)
        have HT := Lib.hid (HTK.out k _ hp)
        simp only [hq] at HR
        generalize (rdI s (a, b)).1 = x at *
        generalize wordT s (a, b) = T at *
        generalize ((ws.take k).map fun w => (rdI s w).1) = S at *
        have hml : k + 1 ≤ maxLen := by unfold maxLen; omega
        have hml2 : (k + 1) * 8 ≤ 140737488355328 := by omega
        have HGO : Hid (∀ W, IwS w f (.slice (some ⟨g, 0, none⟩) n cv) u8 S W → ((W.alloc (.cells #[.int .i64 x] 3)).ownsRow (w.heap.size + 2) 3 1 u8 k (S.map intV)) ∧ w.heap.size + 2 ≤ W.heap.size ∧ (∀ v' w5, w5.ownsRow (w.heap.size + 2) 3 1 v' (k + 1) (S.map intV ++ [.int .i64 x]) → (W.alloc (.cells #[.int .i64 x] 3)).grownBy w5 u8.ownBlock → IwS w f (.slice (some ⟨g, 0, none⟩) n cv) v' (S ++ [x]) w5)) := fun W h =>
          ⟨by have e := (h.next (fbelow_box_s W (.cells #[.int .i64 x] 3))).row; rw [HLN.out] at e; exact e, h.b.lt, fun v' w5 h1 h2 => (h.next (fbelow_box_s W _)).grow h2 (by rw [List.map_append, List.length_append, HLN.out]; exact h1)⟩
        clear hp hlen hq hB
        go_wp2_with (first
          | (go_at_call 34; (with_reducible refine (HX.out _).mono ?_); rintro e w1 ⟨rfl, hb1⟩; have HS1 := Lib.hid (HS.out.next hb1); clear hb1)
          | (go_at_call 37; (with_reducible refine (HR.out _).mono ?_); rintro e w2 ⟨rfl, rfl⟩; obtain ⟨g1, g2, g3⟩ := HGO.out _ HS1.out; have HG1 := Lib.hid g1; have HG3 := Lib.hid g3; clear g1 g3)
          | (at_builtin; refine wpList_append_own _ rfl _ _ 38 rfl (w.heap.size + 2) 3 i0 (.int .i64 0) 1 8 Try.underlying38 HI.out hz0 hz1 hz2 rfl (by decide) u8 k (S.map intV) rfl HG1.out ⟨w1.heap.size, 0, none⟩ 1 1 [.int .i64 x] rfl rfl (fun j u h => cells_arr_s _ _ _ j u h) (by simp [Value.oneCell']) hml hml2 (by simp; omega) ?_; intro v' w5 hown' hgrow _; have HS7 := Lib.hid (HG3.out v' w5 hown' hgrow); clear hown' hgrow))
        go_roundw
        case rel => exact ⟨k + 1, by omega, by go_num, HO, by rw [HT.out]; exact HS7.out⟩
        case measure => simp [intOf]; omega
      · have HE := Lib.hid (HBAD.out k _ hp hG.out hq)
        have d : ((rdI s (a, b)).2 != 0) = true := bne_iff_ne.2 hq
        generalize (rdI s (a, b)).2 = y at *
        generalize (rdI s (a, b)).1 = x at *
        generalize wordT s (a, b) = T at *
        clear hp hlen hq hB
        go_wp2_with (first
          | (go_at_call 34; (with_reducible refine (HX.out _).mono ?_); rintro e w1 ⟨rfl, hb1⟩; have HS1 := Lib.hid (HS.out.next hb1); clear hb1)
          | (go_at_call 37; (with_reducible refine (HR.out _).mono ?_); rintro e w2 ⟨rfl, rfl⟩; clear x0 x1 r0 r1 f0 f1 e0 e1; obtain ⟨x0, x1, r0, r1, f0, f1⟩ := HS1.out.b.cells; have e0 := (HE0.out _ HS1.out.b.below).1; have hsz := HS1.out.b.lt))
        have HB2 := Lib.hid HS1.out.b.below
        go_region
        go_wp2
        refine bodyPost_ret (v := .tuple #[.slice none 0 0, .agg #[.int .i64 (a : Nat), .int .i64 y]]) (by simp [results, Try.results16, go_sem, r0, r1]) rfl ⟨.slice none 0 0, by rw [HE.out], by rw [HE.out]; exact HasInts.nil _, ?_⟩
        exact below_drew_s ((HB2.out.setCell (Nat.le_succ _) _).setCell (Nat.le_succ _) _)
    · obtain rfl : k = n := by omega
      have HE := Lib.hid (HALL.out hG.out)
      have hI : Hid (HasInts ((wr.setCell ⟨w.heap.size + 1, 0, none⟩ (.int .i64 0)).setCell ⟨w.heap.size + 1, 1, none⟩ (.int .i64 0)) u8 (ws.map fun w => (rdI s w).1)) := by
        have := hasInts_of_owns (own_set_s (own_set_s HS.out.row (a := ⟨w.heap.size + 1, 0, none⟩) (Nat.lt_succ_self _) (.int .i64 0)) (a := ⟨w.heap.size + 1, 1, none⟩) (Nat.lt_succ_self _) (.int .i64 0))
        rw [HTA.out] at this
        exact this
      have hsz := HS.out.b.lt
      have HB2 := Lib.hid hB
      clear hlt hk
      go_wp2
      refine bodyPost_ret (v := .tuple #[u8, .agg #[.int .i64 0, .int .i64 0]]) (by simp [results, Try.results16, go_sem, r0, r1]) rfl ⟨u8, by rw [HE.out]; rfl, by rw [HE.out]; exact hI.out, ?_⟩
      exact (HB2.out.setCell (Nat.le_succ _) _).setCell (Nat.le_succ _) _
end Go.Proofs
/- Plain facts on sheet.Flat: row by row, word by word. No program. -/
namespace Go.Sheet
open Go.Wds Go.Proofs Go.Fx
/-- What is told by rows ahead, and by those that follow. -/
def combF (O : List Int) (i : Nat) (r : List Int × Nat × Nat × Int) : List Int × Nat × Nat × Int := if r.2.2.2 ≠ 0 then ([], 0, r.2.2.1, r.2.2.2) else (O ++ r.1, i + r.2.1, 0, 0)
theorem combF_start (r : List Int × Nat × Nat × Int) (h : r.2.2.2 = 0 → r.2.2.1 = 0) (h2 : r.2.2.2 ≠ 0 → r.1 = [] ∧ r.2.1 = 0) : combF [] 0 r = r := by
  unfold combF
  obtain ⟨a, b, c, d⟩ := r
  by_cases e : d = 0
  · subst e
    have : c = 0 := h rfl
    subst this
    simp
  · obtain ⟨rfl, rfl⟩ := h2 e
    simp [e]
theorem takeW_zero {α : Type} {rd : Nat × Nat → α × Int} {l : List (Nat × Nat)} (h : (takeW rd l).2.2 = 0) : (takeW rd l).2.1 = 0 := by
  unfold takeW at h ⊢
  split
  · rename_i w hw
    rw [hw] at h
    have := List.find?_some hw
    simp at this
    exact absurd h this
  · rfl
theorem flatE_form (s : ByteArray) : ∀ (l : List Rw) (n : Nat), ((flatE s l n).2.2.2 = 0 → (flatE s l n).2.2.1 = 0) ∧ ((flatE s l n).2.2.2 ≠ 0 → (flatE s l n).1 = [] ∧ (flatE s l n).2.1 = 0)
  | [], 0 => ⟨fun _ => rfl, fun h => absurd rfl h⟩
  | _ :: _, 0 => ⟨fun _ => rfl, fun h => absurd rfl h⟩
  | [], _ + 1 => ⟨fun h => by simp [flatE] at h, fun _ => ⟨rfl, rfl⟩⟩
  | p :: l, n + 1 => by
    rw [flatE]
    split
    · rename_i h; exact ⟨fun h' => absurd h' h, fun _ => ⟨rfl, rfl⟩⟩
    · split
      · exact ⟨fun h' => by simp at h', fun _ => ⟨rfl, rfl⟩⟩
      · split
        · rename_i h; exact ⟨fun h' => absurd h' h, fun _ => ⟨rfl, rfl⟩⟩
        · exact ⟨fun _ => rfl, fun h' => absurd rfl h'⟩
theorem flat_start (s : ByteArray) (l : List Rw) (n : Nat) : flatE s l n = combF [] 0 (flatE s l n) := (combF_start _ (flatE_form s l n).1 (flatE_form s l n).2).symm
theorem flat_bad {s : ByteArray} {O : List Int} {i m k : Nat} {p : Rw} {l : List Rw} {w : Nat × Nat} (hk : k < m) (h : p.2[k]? = some w) (ha : ∀ v ∈ p.2.take k, (rdI s v).2 = 0) (hb : (rdI s w).2 ≠ 0) : combF O i (flatE s (p :: l) m) = ([], 0, w.1, (rdI s w).2) := by
  obtain ⟨m, rfl⟩ : ∃ j, m = j + 1 := ⟨m - 1, by omega⟩
  have e : takeW (rdI s) (p.2.take (m + 1)) = ([], w.1, (rdI s w).2) := takeW_bad (k := k) (by rw [List.getElem?_take, if_pos hk]; exact h) (by rw [List.take_take, Nat.min_eq_left (by omega)]; exact ha) hb
  have e2 : flatE s (p :: l) (m + 1) = ([], 0, w.1, (rdI s w).2) := by
    rw [flatE, e, if_pos hb]
  rw [e2]
  unfold combF
  rw [if_pos hb]
theorem flat_long {s : ByteArray} {O : List Int} {i m : Nat} {p : Rw} {l : List Rw} {w : Nat × Nat} (hm : 0 < m) (h : p.2[m]? = some w) (ha : ∀ v ∈ p.2.take m, (rdI s v).2 = 0) : combF O i (flatE s (p :: l) m) = ([], 0, w.1, 3) := by
  obtain ⟨m, rfl⟩ : ∃ j, m = j + 1 := ⟨m - 1, by omega⟩
  have e := takeW_all ha
  have hlt : m + 1 < p.2.length := (List.getElem?_eq_some_iff.1 h).1
  have e2 : flatE s (p :: l) (m + 1) = ([], 0, w.1, 3) := by
    rw [flatE, e, if_neg (by simp), if_pos hlt, List.getD_eq_getElem?_getD, h]; rfl
  rw [e2]
  unfold combF
  rw [if_pos (by simp)]
theorem flat_row {s : ByteArray} {O : List Int} {i m : Nat} {p : Rw} {l : List Rw} (hm : 0 < m) (hl : p.2.length ≤ m) (ha : ∀ v ∈ p.2, (rdI s v).2 = 0) : combF O i (flatE s (p :: l) m) = combF (O ++ p.2.map fun w => (rdI s w).1) (i + 1) (flatE s l (m - p.2.length)) := by
  obtain ⟨m, rfl⟩ : ∃ j, m = j + 1 := ⟨m - 1, by omega⟩
  have e : takeW (rdI s) (p.2.take (m + 1)) = ((p.2.take (m + 1)).map fun w => (rdI s w).1, 0, 0) := takeW_all fun v hv => ha v (List.mem_of_mem_take hv)
  rw [flatE, e, if_neg (by simp), if_neg (by omega)]
  by_cases h : (flatE s l (m + 1 - p.2.length)).2.2.2 ≠ 0
  · rw [if_pos h]
    unfold combF
    rw [if_pos h, if_pos h]
  · rw [if_neg h]
    unfold combF
    rw [if_neg h, if_neg (by simp), List.append_assoc]
    congr 2
    show i + ((flatE s l (m + 1 - p.2.length)).2.1 + 1) = i + 1 + (flatE s l (m + 1 - p.2.length)).2.1
    omega
theorem flat_stop (s : ByteArray) (O : List Int) (i : Nat) (l : List Rw) : combF O i (flatE s l 0) = (O, i, 0, 0) := by
  have : flatE s l 0 = ([], 0, 0, 0) := by cases l <;> rfl
  rw [this]
  unfold combF
  rw [if_neg (by simp), List.append_nil, Nat.add_zero]
theorem flat_end {s : ByteArray} {O : List Int} {i m : Nat} (hm : 0 < m) : combF O i (flatE s [] m) = ([], 0, s.size, 4) := by
  obtain ⟨m, rfl⟩ : ∃ j, m = j + 1 := ⟨m - 1, by omega⟩
  rfl
/-- How many words rows have together. -/
def totW : List Rw → Nat
  | [] => 0
  | p :: l => p.2.length + totW l
theorem totW_append : ∀ (l r : List Rw), totW (l ++ r) = totW l + totW r
  | [], r => by simp [totW]
  | p :: l, r => by rw [List.cons_append, totW, totW, totW_append l r]; omega
theorem totW_take {l : List Rw} {k : Nat} {p : Rw} (h : l[k]? = some p) : totW (l.take (k + 1)) = totW (l.take k) + p.2.length := by
  rw [Go.Wds.take_get h, totW_append]; simp [totW]
theorem totW_le (l : List Rw) (k : Nat) : totW (l.take k) ≤ totW l := by
  have := totW_append (l.take k) (l.drop k)
  rw [List.take_append_drop] at this
  omega
end Go.Sheet
