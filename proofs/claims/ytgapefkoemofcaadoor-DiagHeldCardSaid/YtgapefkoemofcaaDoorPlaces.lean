/- Plain facts on places, lines and columns; no program. -/
import Derived.Test.YtgapefkoemofcaaDoorPlain
import Derived.Test.YtgapefkoemofcaaDoorWhere
namespace Go.Cur

theorem where_spec (i : Nat) : ∀ (l : List UInt8) (base a n : Nat), a ≤ i → i ≤ base + l.length →
    ∃ j x y : Nat, (spansFrom l base a)[j]? = some (x, y) ∧ x ≤ i ∧ i ≤ y ∧ whereL (spansFrom l base a) (i : Int) n = ((n : Int) + j + 1, (i : Int) - x + 1, 0)
  | [], base, a, n, h1, h2 => by
    have h2' : i ≤ base := by simpa using h2
    refine ⟨0, a, base, rfl, h1, h2', ?_⟩
    simp only [spansFrom, whereL]
    rw [if_pos (by omega)]; simp
  | c :: r, base, a, n, h1, h2 => by
    simp only [List.length_cons] at h2
    unfold spansFrom
    split
    · by_cases hi : i ≤ base
      · refine ⟨0, a, base, rfl, h1, hi, ?_⟩
        simp only [whereL]
        rw [if_pos (by omega)]; simp
      · obtain ⟨j, x, y, h3, h4, h5, h6⟩ := where_spec i r (base + 1) (base + 1) (n + 1) (by omega) (by omega)
        refine ⟨j + 1, x, y, by simpa using h3, h4, h5, ?_⟩
        simp only [whereL]
        rw [if_neg (by omega), h6]
        have : (((n + 1 : Nat) : Int) + j + 1) = (n : Int) + ((j + 1 : Nat) : Int) + 1 := by omega
        rw [this]
    · exact where_spec i r (base + 1) a n h1 (by omega)

theorem place_at (c : Int) : ∀ {sp : List (Nat × Nat)} {j x y : Nat} (n : Nat), sp[j]? = some (x, y) → c - 1 ≤ (y : Int) - x → placeL sp ((n : Int) + j + 1) c n = ((x : Int) + c - 1, 0)
  | [], j, x, y, n, h, _ => by simp at h
  | (a, b) :: r, 0, x, y, n, h, hc => by
    have e : a = x ∧ b = y := by simpa using h
    obtain ⟨rfl, rfl⟩ := e
    simp only [placeL]
    rw [if_pos ⟨by omega, hc⟩]
  | (a, b) :: r, j + 1, x, y, n, h, hc => by
    simp only [placeL]
    rw [if_neg (by omega)]
    have := place_at c (n + 1) (show r[j]? = some (x, y) by simpa using h) hc
    rw [← this]
    congr 1
    omega

theorem spans_pair : ∀ (l : List UInt8) (base a : Nat), a ≤ base → (spansFrom l base a).Pairwise fun p q => p.2 < q.1
  | [], base, a, _ => by simp [spansFrom]
  | c :: r, base, a, h => by
    unfold spansFrom
    split
    · refine List.Pairwise.cons (fun q hq => ?_) (spans_pair r _ _ (Nat.le_refl _))
      have := spans_mem (Nat.le_refl _) q hq
      simp only; omega
    · exact spans_pair r _ _ (by omega)
theorem spans_sep {l : List UInt8} {j j' x y x' y' : Nat} (h : (spans l)[j]? = some (x, y)) (h' : (spans l)[j']? = some (x', y')) (hj : j < j') : y < x' := by
  obtain ⟨h1, e1⟩ := List.getElem?_eq_some_iff.1 h
  obtain ⟨h2, e2⟩ := List.getElem?_eq_some_iff.1 h'
  have := List.pairwise_iff_getElem.1 (spans_pair l 0 0 (Nat.le_refl _)) j j' h1 h2 hj
  change ((spans l)[j]).2 < ((spans l)[j']).1 at this
  rw [e1, e2] at this
  exact this

/-- What Where tells of a place of the text. -/
theorem where_of (l : List UInt8) (i : Nat) (h : i ≤ l.length) : ∃ j x y : Nat, (spans l)[j]? = some (x, y) ∧ x ≤ i ∧ i ≤ y ∧ whereL (spans l) (i : Int) 0 = ((j : Int) + 1, (i : Int) - x + 1, 0) := by
  obtain ⟨j, x, y, h1, h2, h3, h4⟩ := where_spec i l 0 0 0 (Nat.zero_le _) (by omega)
  exact ⟨j, x, y, h1, h2, h3, by rw [show spans l = spansFrom l 0 0 from rfl, h4]; simp⟩

/-- The statement of the way back, in plain words. -/
theorem back (l : List UInt8) (i k : Nat) (hi : i ≤ k) (hk : k ≤ l.length) :
    ∃ a b c d : Int, whereL (spans l) (i : Int) 0 = (a, b, 0) ∧ whereL (spans l) (k : Int) 0 = (c, d, 0) ∧ placeL (spans l) a b 0 = ((i : Int), 0) ∧ 1 ≤ a ∧ 1 ≤ b ∧ a ≤ (l.length : Int) + 1 ∧ b ≤ (l.length : Int) + 1 ∧ 1 ≤ d ∧
      (i = k ∨ a < c ∨ (a = c ∧ b < d)) := by
  obtain ⟨j, x, y, h1, h2, h3, h4⟩ := where_of l i (by omega)
  obtain ⟨j', x', y', h1', h2', h3', h4'⟩ := where_of l k hk
  obtain ⟨g1, g2, g3⟩ := spans_get h1
  refine ⟨_, _, _, _, h4, h4', ?_, by omega, by omega, by omega, by omega, by omega, ?_⟩
  · have := place_at ((i : Int) - x + 1) (n := 0) h1 (by omega)
    simp only [Int.natCast_zero, Int.zero_add] at this
    rw [this]
    congr 1
    omega
  · rcases Nat.lt_trichotomy j j' with hj | rfl | hj
    · exact .inr (.inl (by omega))
    · rw [h1] at h1'
      cases h1'
      by_cases e : i = k
      · exact .inl e
      · exact .inr (.inr ⟨rfl, by omega⟩)
    · have := spans_sep h1' h1 hj
      omega
end Go.Cur
