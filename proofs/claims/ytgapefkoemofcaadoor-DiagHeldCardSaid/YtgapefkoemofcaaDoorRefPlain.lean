/- Plain facts: places as they are told by going through a text byte by byte; no program. -/
import Derived.Test.YtgapefkoemofcaaDoorPlaces
namespace Go.Cur

theorem where_first : ∀ (r : List UInt8) (b a : Nat) (i : Int) (n : Nat), i ≤ (b : Int) → whereL (spansFrom r b a) i n = ((n : Int) + 1, i - a + 1, 0)
  | [], b, a, i, n, h => by simp only [spansFrom, whereL]; rw [if_pos h]
  | c :: r, b, a, i, n, h => by
    unfold spansFrom
    split
    · simp only [whereL]; rw [if_pos h]
    · exact where_first r (b + 1) a i n (by omega)

theorem where_step : ∀ (l : List UInt8) (base a n j : Nat), j < l.length →
    whereL (spansFrom l base a) ((base + j + 1 : Nat) : Int) n = if l[j]? = some 10 then ((whereL (spansFrom l base a) ((base + j : Nat) : Int) n).1 + 1, 1, 0) else ((whereL (spansFrom l base a) ((base + j : Nat) : Int) n).1, (whereL (spansFrom l base a) ((base + j : Nat) : Int) n).2.1 + 1, 0)
  | [], _, _, _, _, h => by simp at h
  | c :: r, base, a, n, 0, _ => by
    unfold spansFrom
    by_cases hc : c = 10
    · subst hc
      simp only [if_true, whereL]
      rw [if_neg (show ¬ (((base + 0 + 1 : Nat) : Int) ≤ (base : Int)) by omega), if_pos (show (((base + 0 : Nat) : Int) ≤ (base : Int)) by omega), where_first r _ _ _ _ (by omega), if_pos (show (((10 : UInt8) :: r)[0]? = some 10) from rfl)]
      refine Prod.ext ?_ (Prod.ext ?_ rfl) <;> simp only <;> omega
    · simp only [if_neg hc]
      rw [where_first r _ _ _ _ (by omega), where_first r _ _ _ _ (by omega)]
      rw [if_neg (by simpa using hc)]
      refine Prod.ext ?_ (Prod.ext ?_ rfl) <;> simp only <;> omega
  | c :: r, base, a, n, j + 1, h => by
    have hj : j < r.length := by simpa using h
    unfold spansFrom
    by_cases hc : c = 10
    · simp only [if_pos hc, whereL]
      rw [if_neg (show ¬ (((base + (j + 1) + 1 : Nat) : Int) ≤ (base : Int)) by omega), if_neg (show ¬ (((base + (j + 1) : Nat) : Int) ≤ (base : Int)) by omega)]
      have := where_step r (base + 1) (base + 1) (n + 1) j hj
      rw [show base + 1 + j + 1 = base + (j + 1) + 1 from by omega, show base + 1 + j = base + (j + 1) from by omega] at this
      rw [this]
      simp only [List.getElem?_cons_succ]
    · simp only [if_neg hc]
      have := where_step r (base + 1) a n j hj
      rw [show base + 1 + j + 1 = base + (j + 1) + 1 from by omega, show base + 1 + j = base + (j + 1) from by omega] at this
      rw [this]
      simp only [List.getElem?_cons_succ]

theorem where_zero (l : List UInt8) : whereL (spans l) 0 0 = (1, 1, 0) := by
  rw [show spans l = spansFrom l 0 0 from rfl, where_first l 0 0 0 0 (by omega)]; rfl
theorem where_next (l : List UInt8) (k : Nat) (h : k < l.length) :
    whereL (spans l) ((k + 1 : Nat) : Int) 0 = if l[k]? = some 10 then ((whereL (spans l) (k : Int) 0).1 + 1, 1, 0) else ((whereL (spans l) (k : Int) 0).1, (whereL (spans l) (k : Int) 0).2.1 + 1, 0) := by
  have := where_step l 0 0 0 k h
  rw [Nat.zero_add] at this
  exact this
theorem where_out : ∀ (sp : List (Nat × Nat)) (i : Int) (n : Nat), (∀ p ∈ sp, (p.2 : Int) < i) → whereL sp i n = (0, 0, 10)
  | [], _, _, _ => rfl
  | (a, b) :: r, i, n, h => by
    have h1 := h (a, b) (by simp)
    simp only [whereL]
    rw [if_neg (by simp only at h1; omega)]
    exact where_out r i (n + 1) (fun p hp => h p (by simp [hp]))
theorem where_beyond (l : List UInt8) (i : Int) (h : (l.length : Int) < i) : whereL (spans l) i 0 = (0, 0, 10) :=
  where_out _ i 0 (fun p hp => by have := (spans_mem (Nat.le_refl 0) p hp).2.2; omega)

theorem place_some (l : List UInt8) (i c : Int) (k : Nat) (hk : k ≤ l.length) (h : (whereL (spans l) (k : Int) 0).1 = i ∧ (whereL (spans l) (k : Int) 0).2.1 = c) : placeL (spans l) i c 0 = ((k : Int), 0) := by
  obtain ⟨j, x, y, h1, h2, h3, h4⟩ := where_of l k hk
  rw [h4] at h
  obtain ⟨rfl, rfl⟩ := h
  have := place_at ((k : Int) - x + 1) 0 h1 (by omega)
  simp only [Int.natCast_zero, Int.zero_add] at this
  rw [this]
  refine Prod.ext ?_ rfl
  simp only; omega

theorem place_hit (c i : Int) : ∀ (sp : List (Nat × Nat)) (n : Nat), placeL sp i c n = (0, 10) ∨ ∃ j x y : Nat, sp[j]? = some (x, y) ∧ (n : Int) + j + 1 = i ∧ c - 1 ≤ (y : Int) - x
  | [], _ => .inl rfl
  | (a, b) :: r, n => by
    simp only [placeL]
    split
    · rename_i h
      exact .inr ⟨0, a, b, rfl, by omega, h.2⟩
    · rcases place_hit c i r (n + 1) with h | ⟨j, x, y, h1, h2, h3⟩
      · exact .inl h
      · exact .inr ⟨j + 1, x, y, by simpa using h1, by omega, h3⟩
theorem where_at {l : List UInt8} {j x y k : Nat} (h : (spans l)[j]? = some (x, y)) (h1 : x ≤ k) (h2 : k ≤ y) : whereL (spans l) (k : Int) 0 = ((j : Int) + 1, (k : Int) - x + 1, 0) := by
  obtain ⟨_, hy, _⟩ := spans_get h
  obtain ⟨j', x', y', h1', h2', h3', h4'⟩ := where_of l k (by omega)
  rcases Nat.lt_trichotomy j j' with hj | rfl | hj
  · have := spans_sep h h1' hj; omega
  · rw [h] at h1'; cases h1'; exact h4'
  · have := spans_sep h1' h hj; omega
theorem place_none (l : List UInt8) (i c : Int) (hc : 1 ≤ c) (h : ∀ k : Nat, k ≤ l.length → ¬ ((whereL (spans l) (k : Int) 0).1 = i ∧ (whereL (spans l) (k : Int) 0).2.1 = c)) : placeL (spans l) i c 0 = (0, 10) := by
  rcases place_hit c i (spans l) 0 with h' | ⟨j, x, y, h1, h2, h3⟩
  · exact h'
  · obtain ⟨g1, g2, g3⟩ := spans_get h1
    have h4 := where_at h1 (k := (x + (c - 1).toNat)) (by omega) (by omega)
    exact (h (x + (c - 1).toNat) (by omega) (by rw [h4]; constructor <;> simp only <;> omega)).elim
theorem col_pos (l : List UInt8) (k : Nat) (hk : k ≤ l.length) : 1 ≤ (whereL (spans l) (k : Int) 0).1 ∧ 1 ≤ (whereL (spans l) (k : Int) 0).2.1 ∧ (whereL (spans l) (k : Int) 0).1 ≤ (l.length : Int) + 1 ∧ (whereL (spans l) (k : Int) 0).2.1 ≤ (l.length : Int) + 1 ∧ (whereL (spans l) (k : Int) 0).2.2 = 0 := by
  obtain ⟨j, x, y, h1, h2, h3, h4⟩ := where_of l k hk
  obtain ⟨g1, g2, g3⟩ := spans_get h1
  rw [h4]
  refine ⟨?_, ?_, ?_, ?_, rfl⟩ <;> simp only <;> omega
end Go.Cur
