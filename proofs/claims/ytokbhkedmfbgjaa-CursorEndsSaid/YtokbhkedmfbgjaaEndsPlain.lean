/- Plain facts: the lines of a text that is one line; no program. -/
import Derived.Test.YtokbhkedmfbgjaaRowsOf
namespace Go.Cur
theorem spans_plain : ∀ (l r : List UInt8) (base a : Nat), (∀ c ∈ l, c ≠ 10) → spansFrom (l ++ r) base a = spansFrom r (base + l.length) a
  | [], r, base, a, _ => by simp
  | c :: l, r, base, a, h => by
    have hc : c ≠ 10 := h c (by simp)
    rw [List.cons_append, spansFrom, if_neg hc, spans_plain l r (base + 1) a (fun d hd => h d (by simp [hd]))]
    congr 1
    simp only [List.length_cons]; omega
theorem lines_feed (l : List UInt8) (h : ∀ c ∈ l, c ≠ 10 ∧ c ≠ 13) : lines (l ++ [10]) = [(0, l.length, l.length + 1)] := by
  have e : spans (l ++ [10]) = [(0, l.length), (l.length + 1, l.length + 1)] := by
    rw [show spans (l ++ [10]) = spansFrom (l ++ [10]) 0 0 from rfl, spans_plain l [10] 0 0 (fun c hc => (h c hc).1)]
    simp [spansFrom]
  have h13 : ∀ k : Nat, (l ++ [10])[k]? ≠ some 13 := fun k hk => by
    have := List.mem_of_getElem? hk
    rcases List.mem_append.1 this with h1 | h1
    · exact (h 13 h1).2 rfl
    · simp at h1
  simp [lines, e, List.takeWhile, lineAt, h13]
theorem lines_both (l : List UInt8) (h : ∀ c ∈ l, c ≠ 10 ∧ c ≠ 13) : lines (l ++ [13, 10]) = [(0, l.length, l.length + 2)] := by
  have e : spans (l ++ [13, 10]) = [(0, l.length + 1), (l.length + 2, l.length + 2)] := by
    rw [show spans (l ++ [13, 10]) = spansFrom (l ++ [13, 10]) 0 0 from rfl, spans_plain l [13, 10] 0 0 (fun c hc => (h c hc).1)]
    simp [spansFrom]
  simp [lines, e, List.takeWhile, lineAt]
theorem lines_bare (l : List UInt8) (h : ∀ c ∈ l, c ≠ 10 ∧ c ≠ 13) : lines l = if l = [] then [] else [(0, l.length, l.length)] := by
  have e : spans l = [(0, l.length)] := by
    have := spans_plain l [] 0 0 (fun c hc => (h c hc).1)
    rw [List.append_nil] at this
    rw [show spans l = spansFrom l 0 0 from rfl, this]
    simp [spansFrom]
  by_cases hl : l = []
  · subst hl; rfl
  · have hn : l.length ≠ 0 := fun e => hl (List.length_eq_zero_iff.1 e)
    have hb : ((0 : Nat) != l.length) = true := by simp; omega
    simp [lines, e, List.takeWhile, lineAt, hl, hb]
end Go.Cur
