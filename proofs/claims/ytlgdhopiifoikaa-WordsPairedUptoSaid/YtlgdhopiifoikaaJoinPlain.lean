/- Plain facts on words that are put together with blanks between; no program. -/
import Derived.Test.YtlgdhopiifoikaaRuns
namespace Go.Wds
/-- The bytes from p up to q. -/
def tx (l : List UInt8) (p q : Nat) : List UInt8 := (l.drop p).take (q - p)
theorem tx_append {l r : List UInt8} {p q : Nat} (hq : q ≤ l.length) : tx (l ++ r) p q = tx l p q := by
  unfold tx
  by_cases h : p ≤ q
  · rw [List.drop_append_of_le_length (by omega), List.take_append_of_le_length (by simp; omega)]
  · rw [show q - p = 0 from by omega, List.take_zero, List.take_zero]
theorem tx_mid (l w r : List UInt8) : tx (l ++ w ++ r) l.length (l.length + w.length) = w := by
  unfold tx
  rw [List.append_assoc, List.drop_left, Nat.add_sub_cancel_left, List.take_left]
/-- A word more at the end of a text that ends in a blank. -/
theorem runs_snoc {l w z : List UInt8} (hl : ∀ x, l[l.length - 1]? = some x → blk x = true) (hw : ∀ x ∈ w, blk x = false) (hw0 : w ≠ []) (hz : ∀ x ∈ z, blk x = true) (hz0 : z ≠ []) :
    ∀ (qs : List (Nat × Nat)) (a : Nat), a ≤ l.length → Runs l l.length a qs → Runs (l ++ w ++ z) (l ++ w ++ z).length a (qs ++ [(l.length, l.length + w.length)])
  | [], a, ha, h => by
    have hwl : 0 < w.length := List.length_pos_iff.2 hw0
    have hzl : 0 < z.length := List.length_pos_iff.2 hz0
    refine ⟨ha, by omega, by simp, fun j x h1 h2 h3 => ?_, fun j x h1 h2 h3 => ?_, fun h1 x h2 => ?_, fun j x h1 h2 h3 => ?_⟩
    · rw [List.append_assoc, List.getElem?_append_left h2] at h3
      exact h j x h1 h2 h3
    · rw [List.append_assoc, List.getElem?_append_right h1, List.getElem?_append_left (by omega)] at h3
      exact hw x (List.mem_of_getElem? h3)
    · rw [List.getElem?_append_right (by simp)] at h2
      exact hz x (List.mem_of_getElem? h2)
    · rw [List.getElem?_append_right (by simp; omega)] at h3
      exact hz x (List.mem_of_getElem? h3)
  | (p, q) :: qs, a, ha, h => by
    obtain ⟨h1, h2, h3, h4, h5, h6, h7⟩ := h
    have hql : q < l.length := by
      rcases Nat.lt_or_ge q l.length with h | h
      · exact h
      · obtain ⟨x, hx⟩ := at_len (l := l) (j := l.length - 1) (by omega)
        have e1 := hl x hx
        rw [h5 (l.length - 1) x (by omega) (by omega) hx] at e1
        cases e1
    refine ⟨h1, h2, by simp; omega, fun j x i1 i2 i3 => ?_, fun j x i1 i2 i3 => ?_, fun _ x i2 => ?_, runs_snoc hl hw hw0 hz hz0 qs q h3 h7⟩
    · rw [List.append_assoc, List.getElem?_append_left (by omega)] at i3
      exact h4 j x i1 i2 i3
    · rw [List.append_assoc, List.getElem?_append_left (by omega)] at i3
      exact h5 j x i1 i2 i3
    · rw [List.append_assoc, List.getElem?_append_left hql] at i2
      exact h6 hql x i2

/-- t is the first i of the words ps of l, put together; in it they are qs. -/
def Built (l : List UInt8) (ps : List (Nat × Nat)) (i : Nat) (t : List UInt8) (qs : List (Nat × Nat)) : Prop :=
  qs.length = i ∧ Runs t t.length 0 qs ∧ (∀ x, t[t.length - 1]? = some x → blk x = true) ∧ 0 < t.length ∧
  ∀ j p q, j < i → ps[j]? = some (p, q) → ∃ p' q', qs[j]? = some (p', q') ∧ p' ≤ q' ∧ q' ≤ t.length ∧ tx t p' q' = tx l p q
theorem built_start (l : List UInt8) (ps : List (Nat × Nat)) : Built l ps 0 [9] [] := by
  refine ⟨rfl, fun j x h1 h2 h3 => ?_, fun x hx => ?_, by simp, fun j p q h => by omega⟩
  · have e : j = 0 := by simp at h2; omega
    subst e
    cases h3; rfl
  · cases hx; rfl
theorem built_step {l : List UInt8} {ps qs : List (Nat × Nat)} {i p q : Nat} {t z : List UInt8} (h : Built l ps i t qs) (hp : ps[i]? = some (p, q)) (hpq : p < q) (hq : q ≤ l.length) (hi : Ink l p q) (hz : ∀ x ∈ z, blk x = true) (hz0 : z ≠ []) :
    Built l ps (i + 1) (t ++ tx l p q ++ z) (qs ++ [(t.length, t.length + (q - p))]) := by
  obtain ⟨h1, h2, h3, h4, h5⟩ := h
  have hwl : (tx l p q).length = q - p := by unfold tx; simp; omega
  have hw : ∀ x ∈ tx l p q, blk x = false := fun x hx => by
    obtain ⟨j, hj⟩ := List.mem_iff_getElem?.1 hx
    have hjl : j < q - p := by have := (List.getElem?_eq_some_iff.1 hj).1; omega
    unfold tx at hj
    rw [List.getElem?_take_of_lt hjl, List.getElem?_drop] at hj
    exact hi _ x (by omega) (by omega) hj
  have hw0 : tx l p q ≠ [] := fun e => by rw [e] at hwl; simp at hwl; omega
  have hr := runs_snoc h3 hw hw0 hz hz0 qs 0 (Nat.zero_le _) h2
  rw [hwl] at hr
  refine ⟨by simp [h1], hr, fun x hx => ?_, by simp; omega, fun j a b hj hab => ?_⟩
  · have hzl : 0 < z.length := List.length_pos_iff.2 hz0
    rw [List.getElem?_append_right (by simp; omega)] at hx
    exact hz x (List.mem_of_getElem? hx)
  · by_cases e : j = i
    · subst e
      rw [hp] at hab
      cases hab
      refine ⟨t.length, t.length + (q - p), by rw [List.getElem?_append_right (by omega), h1, Nat.sub_self]; rfl, by omega, by simp; omega, ?_⟩
      rw [← hwl]
      exact tx_mid _ _ _
    · obtain ⟨p', q', g1, g2, g3, g4⟩ := h5 j a b (by omega) hab
      refine ⟨p', q', by rw [List.getElem?_append_left (by omega)]; exact g1, g2, by simp; omega, ?_⟩
      rw [List.append_assoc, tx_append g3]
      exact g4
theorem built_end {l : List UInt8} {ps qs : List (Nat × Nat)} {t : List UInt8} (h : Built l ps ps.length t qs) : wordsL t 0 t.length = qs :=
  runs_eq (Nat.le_refl _) (runs_of (Nat.zero_le _) (Nat.le_refl _)) h.2.1

/-- Words, one by one: what stands ahead of the word m ends at a. -/
def Ahead (l : List UInt8) (ps : List (Nat × Nat)) (m a : Nat) : Prop := m ≤ ps.length → Runs l l.length a (ps.drop m)
theorem ahead_step {l : List UInt8} {ps : List (Nat × Nat)} {m a p q : Nat} (h : Ahead l ps m a) (hp : ps[m]? = some (p, q)) :
    a ≤ p ∧ p < q ∧ q ≤ l.length ∧ Ink l p q ∧ Ahead l ps (m + 1) q := by
  obtain ⟨hm, e⟩ := List.getElem?_eq_some_iff.1 hp
  have h1 := h (by omega)
  rw [List.drop_eq_getElem_cons hm, e] at h1
  obtain ⟨g1, g2, g3, g4, g5, g6, g7⟩ := h1
  exact ⟨g1, g2, g3, g5, fun _ => g7⟩
/-- Each word has a byte. -/
theorem runs_pos {l : List UInt8} {b : Nat} : ∀ {ps : List (Nat × Nat)} {a : Nat}, Runs l b a ps → ∀ {i p q : Nat}, ps[i]? = some (p, q) → p < q ∧ q ≤ b
  | [], a, h, i, p, q, hp => by simp at hp
  | (p', q') :: ps, a, h, 0, p, q, hp => by
    simp at hp
    obtain ⟨rfl, rfl⟩ := hp
    exact ⟨h.2.1, h.2.2.1⟩
  | (p', q') :: ps, a, h, i + 1, p, q, hp => runs_pos h.2.2.2.2.2.2 (by simpa using hp)
end Go.Wds
