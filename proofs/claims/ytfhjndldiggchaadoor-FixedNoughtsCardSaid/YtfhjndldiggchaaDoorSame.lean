/- What fixed.Int and fixed.Read tell is what the document's tell. No program. -/
import Derived.Test.YtfhjndldiggchaaDoorTake
import Derived.Test.YtfhjndldiggchaaDoorRReadAny
namespace Go.Fx
open Go.Proofs
theorem digs_full {l : List UInt8} (h : l.all dg = true) : digs l = l := by
  unfold digs
  induction l with
  | nil => rfl
  | cons c r ih =>
    simp only [List.all_cons, Bool.and_eq_true] at h
    rw [List.takeWhile_cons, if_pos h.1, ih h.2]
theorem digs_part {l : List UInt8} (h : ¬ l.all dg = true) : l.drop (digs l).length ≠ [] := by
  intro e
  apply h
  have h1 : l.length ≤ (digs l).length := by simpa using e
  have h2 : digs l = l := (List.takeWhile_prefix dg (l := l)).eq_of_length (Nat.le_antisymm (List.takeWhile_prefix dg (l := l)).length_le h1)
  rw [← h2]
  exact List.all_eq_true.2 digs_all
theorem p10_add (a b : Nat) : p10 ((a + b : Nat) : Int) = p10 (a : Int) * p10 (b : Int) := by
  rw [p10_nat, p10_nat, p10_nat, Nat.pow_add]
  exact Int.natCast_mul _ _
theorem p10_one : p10 (1 : Nat) = 10 := by rw [p10_nat]; rfl
theorem valF_split (m : Int) (l : List UInt8) : valF m l = m * p10 (l.length : Int) + valF 0 l := by
  induction l generalizing m with
  | nil => simp [valF, p10]
  | cons c r ih =>
    have e1 : valF m (c :: r) = valF (10 * m + ((c.toNat : Int) - 48)) r := rfl
    have e2 : valF 0 (c :: r) = valF (10 * 0 + ((c.toNat : Int) - 48)) r := rfl
    rw [e1, e2, ih, ih (10 * 0 + ((c.toNat : Int) - 48))]
    have e3 : p10 ((c :: r).length : Int) = p10 (r.length : Int) * 10 := by
      rw [List.length_cons, p10_add, p10_one]
    rw [e3, Int.add_mul, Int.add_mul]
    have : m * (p10 (r.length : Int) * 10) = 10 * m * p10 (r.length : Int) := by rw [Int.mul_comm (p10 _) 10, ← Int.mul_assoc, Int.mul_comm m 10]
    omega
theorem takeN_rest {m : Int} {s : Nat} {r : List UInt8} (h : r ≠ []) : takeN (some (m, s, r)) = (0, 0, 20) := by
  simp only [takeN]; rw [if_neg h]
theorem takeN_end (m : Int) (s : Nat) : takeN (some (m, s, [])) = chkL (least s m) := by
  simp only [takeN, chkL, if_true]
theorem fit_sgn {g v : Int} (hg : g = 1 ∨ g = -1) (h : 0 ≤ v) : fitB (g * v) = true ↔ ¬ 100000000 < v := by
  rcases hg with e | e <;> rw [e] <;> simp [fitB] <;> omega
theorem chkL_yes {x : Int} {y : Nat} (h : fitB x = true) : chkL (x, y) = (x, y, 0) := by unfold chkL; exact if_pos h
theorem chkL_no {x : Int} {y : Nat} (h : ¬ fitB x = true) : chkL (x, y) = (0, 0, 2) := by unfold chkL; exact if_neg h
theorem int_same (l : List UInt8) : (intN l).1 = (intR l).1 ∧ (intN l).2.2 = (intR l).2 := by
  unfold intN intR numI
  generalize ht : tailIf 45 l = t
  generalize hg : sgn l = g
  have hg' : g = 1 ∨ g = -1 := hg ▸ sgn_cases l
  by_cases ha : t.all dg = true
  · rw [digs_full ha]
    by_cases hl : 1 ≤ t.length ∧ t.length ≤ 12
    · have hv := valF_bd (a := 0) 0 (by omega) (by decide) t (List.all_eq_true.1 ha)
      have hR : digR t 12 = (valF 0 t, true) := by unfold digR; rw [if_pos ⟨hl.1, hl.2, ha⟩]
      rw [if_pos hl, hR, List.drop_length, takeN_end]
      have hL : least 0 (g * valF 0 t) = (g * valF 0 t, 0) := rfl
      rw [hL]
      simp only [intT, if_true]
      by_cases hb : 100000000 < valF 0 t
      · rw [chkL_no (fun h => (fit_sgn hg' hv.1).1 h hb), if_pos hb]; exact ⟨rfl, rfl⟩
      · rw [chkL_yes ((fit_sgn hg' hv.1).2 hb), if_neg hb]; exact ⟨rfl, rfl⟩
    · have hR : digR t 12 = (0, false) := by unfold digR; rw [if_neg (fun h => hl ⟨h.1, h.2.1⟩)]
      rw [if_neg hl, hR]
      exact ⟨rfl, rfl⟩
  · have hR : digR t 12 = (0, false) := by unfold digR; rw [if_neg (fun h => ha h.2.2)]
    rw [hR]
    split
    · rw [takeN_rest (digs_part ha)]; exact ⟨rfl, rfl⟩
    · exact ⟨rfl, rfl⟩
theorem pt_take (l : List UInt8) : l.take (pt l 0) = l.takeWhile (· != 46) := by
  unfold pt
  simp only [List.drop_zero, Nat.zero_add]
  exact (List.prefix_iff_eq_take.1 (List.takeWhile_prefix _)).symm
theorem pt_cons (c : UInt8) (l : List UInt8) : pt (c :: l) 0 = if c = 46 then 0 else pt l 0 + 1 := by
  unfold pt
  simp only [List.drop_zero, List.takeWhile_cons, Nat.zero_add]
  by_cases h : c = 46 <;> simp [h]
theorem pt_at {l : List UInt8} (h : pt l 0 < l.length) : ∃ r, l.drop (pt l 0) = 46 :: r := by
  induction l with
  | nil => simp at h
  | cons c l ih =>
    rw [pt_cons] at h ⊢
    by_cases hc : c = 46
    · rw [if_pos hc]; exact ⟨l, by rw [hc]; rfl⟩
    · rw [if_neg hc] at h ⊢
      simp only [List.length_cons, Nat.add_lt_add_iff_right] at h
      exact ih h
theorem read_same (l : List UInt8) : readN l = readR l := by
  unfold readN readR numR readT
  generalize ht : tailIf 45 l = t
  generalize hg : sgn l = g
  obtain ⟨p, hp⟩ : ∃ p, p = pt t 0 := ⟨_, rfl⟩
  have hpl : p ≤ t.length := by rw [hp]; exact pt_le (Nat.zero_le _)
  rw [← hp]
  by_cases ha : (t.take p).all dg = true
  · -- the digits ahead are just those ahead of the point
    have hD : digs t = t.take p := by
      refine takeWhile_stop (List.all_eq_true.1 ha) ?_
      by_cases hlt : p < t.length
      · obtain ⟨r, hr⟩ := pt_at (hp ▸ hlt)
        rw [← hp] at hr
        refine .inr ⟨46, ?_, rfl⟩
        have := congrArg List.head? hr
        simpa using this
      · exact .inl (by omega)
    have hlen : (t.take p).length = p := by rw [List.length_take]; exact Nat.min_eq_left hpl
    rw [hD, hlen]
    by_cases hl : 1 ≤ p ∧ p ≤ 12
    · have hR : digR (t.take p) 12 = (valF 0 (t.take p), true) := by unfold digR; rw [hlen, if_pos ⟨hl.1, hl.2, ha⟩]
      rw [if_pos hl, hR]
      simp only [if_true]
      unfold numT
      by_cases hlt : p < t.length
      · obtain ⟨r, hr⟩ := pt_at (hp ▸ hlt)
        rw [← hp] at hr
        have hr1 : t.drop (p + 1) = r := by
          have := congrArg List.tail hr
          simpa using this
        have hrl : t.length - p - 1 = r.length := by rw [← hr1, List.length_drop]; omega
        have hri : (t.length : Int) - (p : Int) - 1 = (r.length : Int) := by omega
        rw [hr, hr1, if_pos (show headB 46 (46 :: r) = true from rfl), if_pos hlt, hrl, hri]
        rw [show ((46 : UInt8) :: r).tail = r from rfl]
        by_cases hb : r.all dg = true
        · rw [digs_full hb]
          by_cases hq : 1 ≤ r.length ∧ r.length ≤ 6
          · have hR2 : digR r 6 = (valF 0 r, true) := by unfold digR; rw [if_pos ⟨hq.1, hq.2, hb⟩]
            rw [if_pos hq, hR2, List.drop_length, takeN_end, valF_split (valF 0 (t.take p)) r]
            simp only [if_true]
          · have hR2 : digR r 6 = (0, false) := by unfold digR; rw [if_neg (fun h => hq ⟨h.1, h.2.1⟩)]
            rw [if_neg hq, hR2]
            rfl
        · have hR2 : digR r 6 = (0, false) := by unfold digR; rw [if_neg (fun h => hb h.2.2)]
          rw [hR2]
          simp only [Bool.false_eq_true, if_false]
          split
          · exact takeN_rest (digs_part hb)
          · rfl
      · have hpe : p = t.length := by omega
        rw [if_neg hlt, hpe, List.drop_length, if_neg (show ¬ headB 46 [] = true from by simp [headB]), takeN_end]
    · have hR : digR (t.take p) 12 = (0, false) := by unfold digR; rw [hlen, if_neg (fun h => hl ⟨h.1, h.2.1⟩)]
      rw [if_neg hl, hR]
      rfl
  · have hR : digR (t.take p) 12 = (0, false) := by unfold digR; rw [if_neg (fun h => ha h.2.2)]
    rw [hR]
    simp only [Bool.false_eq_true, if_false]
    split
    · -- what is left begins with no point, and is not empty
      have hlt : (digs t).length < p := by
        apply Nat.lt_of_not_le
        intro hle
        apply ha
        have h1 : t.take p = (digs t).take p := by
          have := List.prefix_iff_eq_take.1 (List.takeWhile_prefix dg (l := t))
          have e : digs t = t.take (digs t).length := this
          conv => rhs; rw [e]
          rw [List.take_take, Nat.min_eq_left hle]
        rw [h1]
        exact List.all_eq_true.2 (fun c hc => digs_all c (List.mem_of_mem_take hc))
      have hne : t.drop (digs t).length ≠ [] := by
        intro e
        have := congrArg List.length e
        simp at this; omega
      have hhead : headB 46 (t.drop (digs t).length) = false := by
        have hk : (digs t).length < t.length := by omega
        rw [List.drop_eq_getElem_cons hk]
        have hx : t[(digs t).length] ∈ t.takeWhile (· != 46) := by
          rw [← pt_take, ← hp]
          rw [List.mem_take_iff_getElem]
          exact ⟨_, by omega, rfl⟩
        have := List.all_takeWhile (p := (· != 46)) (l := t)
        rw [List.all_eq_true] at this
        have := this _ hx
        simp only [headB]
        simpa using this
      unfold numT
      rw [if_neg (by rw [hhead]; simp)]
      exact takeN_rest hne
    · rfl
#print axioms int_same
#print axioms read_same
end Go.Fx
