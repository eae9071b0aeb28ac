/- Plain facts: the lines of a text cover it; no program. -/
import Derived.Test.YtokbhkedmfbgjaaRefPlain
import Derived.Test.YtokbhkedmfbgjaaRefLines
namespace Go.Cur
theorem spans_head : ∀ (r : List UInt8) (b a : Nat), ∃ y, (spansFrom r b a)[0]? = some (a, y)
  | [], b, a => ⟨b, rfl⟩
  | c :: r, b, a => by
    unfold spansFrom
    split
    · exact ⟨b, rfl⟩
    · exact spans_head r (b + 1) a
theorem spansFrom_adj : ∀ (l : List UInt8) (base a k x y : Nat), (spansFrom l base a)[k]? = some (x, y) → y < base + l.length → ∃ y', (spansFrom l base a)[k + 1]? = some (y + 1, y')
  | [], base, a, 0, x, y, h, hy => by
    have e : a = x ∧ base = y := by simpa [spansFrom] using h
    simp at hy; omega
  | [], base, a, k + 1, x, y, h, hy => by simp [spansFrom] at h
  | c :: r, base, a, k, x, y, h, hy => by
    unfold spansFrom at h ⊢
    by_cases hc : c = 10
    · rw [if_pos hc] at h ⊢
      cases k with
      | zero =>
        have e : a = x ∧ base = y := by simpa using h
        obtain ⟨rfl, rfl⟩ := e
        obtain ⟨y', h'⟩ := spans_head r (base + 1) (base + 1)
        exact ⟨y', by simpa using h'⟩
      | succ k =>
        have h' : (spansFrom r (base + 1) (base + 1))[k]? = some (x, y) := by simpa using h
        obtain ⟨y', h2⟩ := spansFrom_adj r (base + 1) (base + 1) k x y h' (by simp only [List.length_cons] at hy; omega)
        exact ⟨y', by simpa using h2⟩
    · rw [if_neg hc] at h ⊢
      exact spansFrom_adj r (base + 1) a k x y h (by simp only [List.length_cons] at hy; omega)
theorem spans_adj {l : List UInt8} {k x y : Nat} (h : (spans l)[k]? = some (x, y)) (hy : y < l.length) : ∃ y', (spans l)[k + 1]? = some (y + 1, y') :=
  spansFrom_adj l 0 0 k x y h (by omega)
theorem spansFrom_free : ∀ (l : List UInt8) (base a : Nat), ∀ p ∈ spansFrom l base a, ∀ j, base ≤ j → p.1 ≤ j → j < p.2 → l[j - base]? ≠ some 10
  | [], base, a, p, hp, j, h1, h2, h3 => by simp
  | c :: r, base, a, p, hp, j, h1, h2, h3 => by
    unfold spansFrom at hp
    by_cases hc : c = 10
    · rw [if_pos hc] at hp
      rcases List.mem_cons.1 hp with rfl | hp
      · simp only at h3; omega
      · have hm := spans_mem (Nat.le_refl _) p hp
        have := spansFrom_free r (base + 1) (base + 1) p hp j (by omega) h2 h3
        rw [show j - base = (j - (base + 1)) + 1 from by omega, List.getElem?_cons_succ]
        exact this
    · rw [if_neg hc] at hp
      by_cases hj : j = base
      · subst hj
        rw [Nat.sub_self, List.getElem?_cons_zero]
        exact fun e => hc (Option.some.inj e)
      · have := spansFrom_free r (base + 1) a p hp j (by omega) h2 h3
        rw [show j - base = (j - (base + 1)) + 1 from by omega, List.getElem?_cons_succ]
        exact this
theorem spans_free {l : List UInt8} {k x y j : Nat} (h : (spans l)[k]? = some (x, y)) (h1 : x ≤ j) (h2 : j < y) : l[j]? ≠ some 10 := by
  have := spansFrom_free l 0 0 (x, y) (List.mem_of_getElem? h) j (Nat.zero_le _) h1 h2
  simpa using this

/-- Where the line k begins; the end of the text, if there is none. -/
def startL (l : List UInt8) (k : Nat) : Nat := match (lines l)[k]? with | some p => p.1 | none => l.length
theorem lines_span {l : List UInt8} {k a b c : Nat} (h : (lines l)[k]? = some (a, b, c)) : ∃ y, (spans l)[k]? = some (a, y) ∧ a ≠ l.length ∧ lineAt l (a, y) = (a, b, c) ∧ k < ((spans l).takeWhile fun p => p.1 != l.length).length := by
  simp only [lines, List.getElem?_map, Option.map_eq_some_iff] at h
  obtain ⟨⟨x, y⟩, h1, h2⟩ := h
  have hk := (List.getElem?_eq_some_iff.1 h1).1
  have h3 : ((spans l).takeWhile fun p => p.1 != l.length) <+: spans l := List.takeWhile_prefix _
  obtain ⟨t, ht⟩ := h3
  have h4 : (spans l)[k]? = some (x, y) := by rw [← ht, List.getElem?_append_left hk]; exact h1
  have hx : x = a := by
    simp only [lineAt] at h2
    split at h2 <;> simp only [Prod.mk.injEq] at h2 <;> exact h2.1
  subst hx
  refine ⟨y, h4, ?_, h2, hk⟩
  have := List.all_takeWhile (l := spans l) (p := fun p => p.1 != l.length)
  have h5 := (List.all_eq_true.1 this) (x, y) (List.mem_of_getElem? h1)
  simpa using h5
theorem start_of {l : List UInt8} {k a b c : Nat} (h : (lines l)[k]? = some (a, b, c)) : startL l k = a := by simp [startL, h]
theorem start_out (l : List UInt8) : startL l (lines l).length = l.length := by simp [startL]
theorem line_of_span {l : List UInt8} {k x y : Nat} (hk : k ≤ (lines l).length) (h : (spans l)[k]? = some (x, y)) : startL l k = x := by
  have hl : (lines l).length = ((spans l).takeWhile fun p => p.1 != l.length).length := by simp [lines]
  have hs := takeWhile_step (p := fun p : Nat × Nat => p.1 != l.length) (by rw [← hl]; exact hk) h
  by_cases hx : x = l.length
  · have := hs.2 (by simp [hx])
    rw [← hl] at this
    rw [← this, start_out, hx]
  · have := (hs.1 (by simpa using hx)).1
    have h2 : (lines l)[k]? = some (lineAt l (x, y)) := by simp only [lines, List.getElem?_map, this, Option.map_some]
    unfold startL
    rw [h2]
    simp only [lineAt]
    split <;> rfl
theorem start_zero (l : List UInt8) : startL l 0 = 0 := by
  obtain ⟨y, h⟩ := spans_head l 0 0
  exact line_of_span (Nat.zero_le _) h
theorem line_facts {l : List UInt8} {k a b c : Nat} (h : (lines l)[k]? = some (a, b, c)) :
    startL l (k + 1) = c ∧ a ≤ b ∧ a < c ∧ b ≤ c ∧ c ≤ l.length ∧ c ≤ b + 2 ∧ whereL (spans l) (a : Int) 0 = ((k : Int) + 1, 1, 0) ∧ ∀ j, a ≤ j → j < b → l[j]? ≠ some 10 := by
  obtain ⟨y, h1, h2, h3, h4⟩ := lines_span h
  obtain ⟨g1, g2, g3⟩ := spans_get h1
  have hw := where_at h1 (Nat.le_refl a) g1
  have hw2 : whereL (spans l) (a : Int) 0 = ((k : Int) + 1, 1, 0) := by rw [hw]; congr 2; omega
  have hl : (lines l).length = ((spans l).takeWhile fun p => p.1 != l.length).length := by simp [lines]
  have hk : k + 1 ≤ (lines l).length := by rw [hl]; exact h4
  by_cases hy : y = l.length
  · have e : lineAt l (a, y) = (a, y, y) := by simp [lineAt, hy]
    rw [e] at h3
    simp only [Prod.mk.injEq] at h3
    obtain ⟨_, rfl, rfl⟩ := h3
    have hlast : (lines l)[k + 1]? = none := by
      rw [List.getElem?_eq_none_iff]
      rcases Nat.lt_or_ge (k + 1) (lines l).length with hlt | hge
      · obtain ⟨⟨x', y', z'⟩, hp⟩ : ∃ p, (lines l)[k + 1]? = some p := ⟨_, List.getElem?_eq_getElem hlt⟩
        obtain ⟨y2, q1, q2, _, _⟩ := lines_span hp
        have := spans_sep h1 q1 (Nat.lt_succ_self k)
        have := (spans_get q1)
        omega
      · exact hge
    refine ⟨by simp [startL, hlast, hy], g1, by omega, Nat.le_refl _, g2, by omega, hw2, fun j q1 q2 => spans_free h1 q1 q2⟩
  · obtain ⟨y', h5⟩ := spans_adj h1 (by omega)
    have hst := line_of_span hk h5
    simp only [lineAt] at h3
    rw [if_neg hy] at h3
    simp only [Prod.mk.injEq] at h3
    obtain ⟨_, rfl, rfl⟩ := h3
    have hb : a ≤ (if a < y ∧ l[y - 1]? = some 13 then y - 1 else y) ∧ (if a < y ∧ l[y - 1]? = some 13 then y - 1 else y) ≤ y ∧ y ≤ (if a < y ∧ l[y - 1]? = some 13 then y - 1 else y) + 1 := by
      split <;> omega
    generalize (if a < y ∧ l[y - 1]? = some 13 then y - 1 else y) = z at hb ⊢
    exact ⟨hst, hb.1, by omega, by omega, by omega, by omega, hw2, fun j q1 q2 => spans_free h1 q1 (by omega)⟩
end Go.Cur
