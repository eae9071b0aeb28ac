/- Plain facts on the parts of a text that line feeds part, and on its lines; no program. -/
import Derived.Laws.RangeAny
import Derived.RowKit
namespace Go.Cur

theorem get_of (s : ByteArray) (k : Nat) (h : k < s.size) : s.get! k = s[k]'h := by
  have := get_at s k h; simpa using this
theorem list_get (s : ByteArray) (k : Nat) (h : k < s.size) : s.data.toList[k]? = some (s[k]'h) := by
  have h' : k < s.data.toList.length := by simpa using h
  rw [List.getElem?_eq_getElem h']; rfl

/-- A line feed is met as one. -/
theorem decode_feed (s : ByteArray) (pos : Nat) (h : pos < s.size) (hb : s[pos]'h = 10) : Utf8.decode s pos = (10, 1) := by
  rw [decode_ascii s pos h (by rw [hb]; decide), hb]; rfl

theorem cont_ne (b : UInt8) (h : (b.toNat / 64 == 2) = true) : b ≠ 10 := by
  intro e; subst e; revert h; decide

/-- Any other sign is none, and has none in it. -/
theorem decode_sign (s : ByteArray) (pos : Nat) (h : pos < s.size) (hb : s[pos]'h ≠ 10) :
    (Utf8.decode s pos).1 ≠ 10 ∧ 1 ≤ (Utf8.decode s pos).2 ∧ pos + (Utf8.decode s pos).2 ≤ s.size ∧ ∀ j, pos ≤ j → j < pos + (Utf8.decode s pos).2 → s.get! j ≠ 10 := by
  have hb' : s.get! (pos + 0) ≠ 10 := by rw [get_at s pos h]; exact hb
  by_cases ha : (s[pos]'h).toNat < 128
  · rw [decode_ascii s pos h ha]
    refine ⟨fun e => hb ?_, Nat.le_refl _, h, fun j h1 h2 => ?_⟩
    · have e' : (s[pos]'h).toNat = (10 : UInt8).toNat := e
      exact UInt8.toNat_inj.1 e'
    · have : j = pos := by simp at h2; omega
      subst this; simpa using hb'
  · have hh := decode_high s pos h (by omega)
    refine ⟨by omega, hh.2, ?_⟩
    have hn : ¬ (s.get! (pos + 0)).toNat < 128 := by rw [get_at s pos h]; exact ha
    clear hh ha
    simp only [Utf8.decode]
    rw [if_neg (by simpa using hn)]
    have one : pos + 1 ≤ s.size ∧ ∀ j, pos ≤ j → j < pos + 1 → s.get! j ≠ 10 := ⟨h, fun j h1 h2 => by
      have : j = pos := by omega
      subst this; simpa using hb'⟩
    have two : ∀ m, (m ≤ 3) → (∀ k, 1 ≤ k → k ≤ m → (decide (pos + k < s.size) && (s.get! (pos + k)).toNat / 64 == 2) = true) → pos + (m + 1) ≤ s.size ∧ ∀ j, pos ≤ j → j < pos + (m + 1) → s.get! j ≠ 10 := by
      intro m hm hk
      refine ⟨?_, fun j h1 h2 => ?_⟩
      · rcases Nat.eq_zero_or_pos m with rfl | hp
        · exact h
        · have := hk m hp (Nat.le_refl _)
          simp at this; omega
      · by_cases e : j = pos
        · subst e; simpa using hb'
        · have := hk (j - pos) (by omega) (by omega)
          rw [Bool.and_eq_true] at this
          have := cont_ne _ this.2
          rwa [show pos + (j - pos) = j from by omega] at this
    split
    · rename_i hc
      simp only [Bool.and_eq_true] at hc
      split
      · refine two 1 (by omega) fun k h1 h2 => ?_
        obtain rfl : k = 1 := by omega
        simpa using hc.2
      · exact one
    · split
      · rename_i hc
        simp only [Bool.and_eq_true] at hc
        split
        · refine two 2 (by omega) fun k h1 h2 => ?_
          rcases (by omega : k = 1 ∨ k = 2) with rfl | rfl
          · simpa using hc.1.2
          · simpa using hc.2
        · exact one
      · split
        · rename_i hc
          simp only [Bool.and_eq_true] at hc
          split
          · refine two 3 (by omega) fun k h1 h2 => ?_
            rcases (by omega : k = 1 ∨ k = 2 ∨ k = 3) with rfl | rfl | rfl
            · simpa using hc.1.1.2
            · simpa using hc.1.2
            · simpa using hc.2
          · exact one
        · exact one

/-- The parts of the rest l of a text, base bytes being ahead of it, the last part having begun at a. -/
def spansFrom : List UInt8 → Nat → Nat → List (Nat × Nat)
  | [], base, a => [(a, base)]
  | c :: r, base, a => if c = 10 then (a, base) :: spansFrom r (base + 1) (base + 1) else spansFrom r (base + 1) a
def spans (l : List UInt8) : List (Nat × Nat) := spansFrom l 0 0

theorem spans_feed (l : List UInt8) (p a : Nat) (h : l[p]? = some 10) : spansFrom (l.drop p) p a = (a, p) :: spansFrom (l.drop (p + 1)) (p + 1) (p + 1) := by
  obtain ⟨hp, he⟩ := List.getElem?_eq_some_iff.1 h
  rw [List.drop_eq_getElem_cons hp, he]; rfl
theorem spans_sign (l : List UInt8) (a : Nat) (w : Nat) : ∀ (p : Nat), p + w ≤ l.length → (∀ j, p ≤ j → j < p + w → l[j]? ≠ some 10) → spansFrom (l.drop p) p a = spansFrom (l.drop (p + w)) (p + w) a := by
  induction w with
  | zero => intro p _ _; rfl
  | succ w ih =>
    intro p hp hj
    have hlt : p < l.length := by omega
    have h1 := hj p (Nat.le_refl _) (by omega)
    rw [List.getElem?_eq_getElem hlt] at h1
    rw [List.drop_eq_getElem_cons hlt, spansFrom, if_neg (fun e => h1 (by rw [e]))]
    rw [ih (p + 1) (by omega) (fun j h2 h3 => hj j (by omega) (by omega)), show p + 1 + w = p + (w + 1) from by omega]
theorem spans_end (l : List UInt8) (a : Nat) : spansFrom (l.drop l.length) l.length a = [(a, l.length)] := by simp [spansFrom]

theorem spans_mem : ∀ {l : List UInt8} {base a : Nat}, a ≤ base → ∀ p ∈ spansFrom l base a, a ≤ p.1 ∧ p.1 ≤ p.2 ∧ p.2 ≤ base + l.length
  | [], base, a, h, p, hp => by
    have : p = (a, base) := by simpa [spansFrom] using hp
    subst this; exact ⟨Nat.le_refl _, h, by simp⟩
  | c :: r, base, a, h, p, hp => by
    unfold spansFrom at hp
    split at hp
    · rcases List.mem_cons.1 hp with rfl | hp
      · exact ⟨Nat.le_refl _, h, by simp⟩
      · have := spans_mem (Nat.le_refl _) p hp
        simp only [List.length_cons]; omega
    · have := spans_mem (by omega) p hp
      simp only [List.length_cons]; omega
theorem spans_len : ∀ (l : List UInt8) (base a : Nat), (spansFrom l base a).length ≤ l.length + 1
  | [], _, _ => by simp [spansFrom]
  | c :: r, base, a => by
    unfold spansFrom
    split
    · have := spans_len r (base + 1) (base + 1); simp only [List.length_cons]; omega
    · have := spans_len r (base + 1) a; simp only [List.length_cons]; omega
theorem spans_get {l : List UInt8} {k a b : Nat} (h : (spans l)[k]? = some (a, b)) : a ≤ b ∧ b ≤ l.length ∧ k ≤ l.length := by
  obtain ⟨hk, he⟩ := List.getElem?_eq_some_iff.1 h
  have h1 := spans_mem (l := l) (base := 0) (a := 0) (Nat.le_refl _) (a, b) (by rw [← he]; exact List.getElem_mem _)
  have h2 := spans_len l 0 0
  simp only [spans] at hk
  refine ⟨h1.2.1, by simpa using h1.2.2, by omega⟩

/-- What is drawn off a list, one at a time. -/
theorem drop_step {α : Type} {l : List α} {k : Nat} {x : α} {r : List α} (h : l.drop k = x :: r) : l[k]? = some x ∧ l.drop (k + 1) = r := by
  have h1 : (l.drop k)[0]? = some x := by rw [h]; rfl
  have h2 : (l.drop k).drop 1 = r := by rw [h]; rfl
  rw [List.getElem?_drop] at h1
  rw [List.drop_drop] at h2
  exact ⟨by simpa using h1, h2⟩
theorem drop_one {α : Type} {l : List α} {k : Nat} {x : α} (h : l.drop k = [x]) : l.length = k + 1 := by
  have h1 : (l.drop k).length = 1 := by rw [h]; rfl
  rw [List.length_drop] at h1; omega
theorem takeWhile_step {α : Type} {p : α → Bool} {x : α} : ∀ {l : List α} {k : Nat}, k ≤ (l.takeWhile p).length → l[k]? = some x → (p x = true → (l.takeWhile p)[k]? = some x ∧ k + 1 ≤ (l.takeWhile p).length) ∧ (p x = false → (l.takeWhile p).length = k)
  | [], k, _, h => by simp at h
  | y :: l, 0, _, h => by
    have e : y = x := by simpa using h
    subst e
    refine ⟨fun hp => ?_, fun hp => ?_⟩ <;> simp [hp]
  | y :: l, k + 1, hk, h => by
    cases hy : p y with
    | false => simp [hy] at hk
    | true =>
      simp only [List.takeWhile_cons, hy, if_true, List.length_cons] at hk ⊢
      have := takeWhile_step (p := p) (l := l) (k := k) (x := x) (by omega) (by simpa using h)
      refine ⟨fun hp => ?_, fun hp => ?_⟩
      · obtain ⟨a, b⟩ := this.1 hp
        exact ⟨by simpa using a, by omega⟩
      · have := this.2 hp; omega
end Go.Cur
