/- Plain facts on the signs of a text, on where a class of them is first met, and on words; no program. -/
import Derived.Laws.RangeAny
import Derived.RowKit
namespace Go.Wds

theorem get_of (s : ByteArray) (k : Nat) (h : k < s.size) : s.get! k = s[k]'h := by
  have := get_at s k h; simpa using this
theorem list_get (s : ByteArray) (k : Nat) (h : k < s.size) : s.data.toList[k]? = some (s[k]'h) := by
  have h' : k < s.data.toList.length := by simpa using h
  rw [List.getElem?_eq_getElem h']; rfl

theorem cont_high (b : UInt8) (h : (b.toNat / 64 == 2) = true) : 128 ≤ b.toNat := by
  have h' : b.toNat / 64 = 2 := by simpa using h
  omega

/-- A sign that is no single low byte has high bytes alone. -/
theorem decode_wide (s : ByteArray) (pos : Nat) (h : pos < s.size) (ha : 128 ≤ (s[pos]'h).toNat) :
    128 ≤ (Utf8.decode s pos).1 ∧ 1 ≤ (Utf8.decode s pos).2 ∧ pos + (Utf8.decode s pos).2 ≤ s.size ∧ ∀ j, pos ≤ j → j < pos + (Utf8.decode s pos).2 → 128 ≤ (s.get! j).toNat := by
  have hb' : 128 ≤ (s.get! (pos + 0)).toNat := by rw [get_at s pos h]; exact ha
  have hh := decode_high s pos h (by omega)
  refine ⟨hh.1, hh.2, ?_⟩
  have hn : ¬ (s.get! (pos + 0)).toNat < 128 := by omega
  clear hh ha
  simp only [Utf8.decode]
  rw [if_neg (by simpa using hn)]
  have one : pos + 1 ≤ s.size ∧ ∀ j, pos ≤ j → j < pos + 1 → 128 ≤ (s.get! j).toNat := ⟨h, fun j h1 h2 => by
    have : j = pos := by omega
    subst this; simpa using hb'⟩
  have two : ∀ m, (m ≤ 3) → (∀ k, 1 ≤ k → k ≤ m → (decide (pos + k < s.size) && (s.get! (pos + k)).toNat / 64 == 2) = true) → pos + (m + 1) ≤ s.size ∧ ∀ j, pos ≤ j → j < pos + (m + 1) → 128 ≤ (s.get! j).toNat := by
    intro m hm hk
    refine ⟨?_, fun j h1 h2 => ?_⟩
    · rcases Nat.eq_zero_or_pos m with rfl | hp
      · exact h
      · have := hk m hp (Nat.le_refl _)
        simp at this; omega
    · by_cases e : j = pos
      · subst e; simpa using hb'
      · have := hk (j - pos) (by omega) (by omega)
        rw [Bool.and_eq_true] at this
        have := cont_high _ this.2
        rwa [show pos + (j - pos) = j from by omega] at this
  split
  · rename_i hc
    simp only [Bool.and_eq_true] at hc
    split
    · refine two 1 (by omega) fun k h1 h2 => ?_
      obtain rfl : k = 1 := by omega
      simpa using hc.2
    · exact one
  · split
    · rename_i hc
      simp only [Bool.and_eq_true] at hc
      split
      · refine two 2 (by omega) fun k h1 h2 => ?_
        rcases (by omega : k = 1 ∨ k = 2) with rfl | rfl
        · simpa using hc.1.2
        · simpa using hc.2
      · exact one
    · split
      · rename_i hc
        simp only [Bool.and_eq_true] at hc
        split
        · refine two 3 (by omega) fun k h1 h2 => ?_
          rcases (by omega : k = 1 ∨ k = 2 ∨ k = 3) with rfl | rfl | rfl
          · simpa using hc.1.1.2
          · simpa using hc.1.2
          · simpa using hc.2
        · exact one
      · exact one

/-- A class of signs that takes all of the high ones, or none. -/
def Flat (p : Nat → Bool) : Prop := ∀ r, 128 ≤ r → p r = p 128
/-- A class, asked of a byte. -/
def ofB (p : Nat → Bool) (c : UInt8) : Bool := p c.toNat

theorem class_step {p : Nat → Bool} (hp : Flat p) (s : ByteArray) (pos : Nat) (h : pos < s.size) :
    p (Utf8.decode s pos).1 = ofB p (s[pos]'h) ∧ 1 ≤ (Utf8.decode s pos).2 ∧ pos + (Utf8.decode s pos).2 ≤ s.size ∧
    (p (Utf8.decode s pos).1 = false → ∀ j, pos ≤ j → j < pos + (Utf8.decode s pos).2 → ofB p (s.get! j) = false) := by
  by_cases ha : (s[pos]'h).toNat < 128
  · rw [decode_ascii s pos h ha]
    refine ⟨rfl, Nat.le_refl _, h, fun hf j h1 h2 => ?_⟩
    have : j = pos := by simp at h2; omega
    subst this
    rw [get_of s j h]; exact hf
  · obtain ⟨h1, h2, h3, h4⟩ := decode_wide s pos h (by omega)
    have e1 : p (Utf8.decode s pos).1 = p 128 := hp _ h1
    refine ⟨?_, h2, h3, fun hf j h5 h6 => ?_⟩
    · rw [e1]; exact (hp _ (by omega)).symm
    · rw [e1] at hf
      unfold ofB
      rw [hp _ (h4 j h5 h6), hf]

/-- The place of the first byte of l of a class, of those from a up to b; b, if there is none. -/
def seekFrom (q : UInt8 → Bool) (l : List UInt8) (a : Nat) : Nat → Nat
  | 0 => a
  | n + 1 => if (l[a]?.map q).getD false then a else seekFrom q l (a + 1) n
def seekL (q : UInt8 → Bool) (l : List UInt8) (a b : Nat) : Nat := seekFrom q l a (b - a)

theorem seekFrom_le (q : UInt8 → Bool) (l : List UInt8) : ∀ n a, a ≤ seekFrom q l a n ∧ seekFrom q l a n ≤ a + n
  | 0, a => ⟨Nat.le_refl _, Nat.le_refl _⟩
  | n + 1, a => by
    unfold seekFrom
    split
    · omega
    · have := seekFrom_le q l n (a + 1); omega
theorem seek_ge (q : UInt8 → Bool) (l : List UInt8) (a b : Nat) : a ≤ seekL q l a b := (seekFrom_le q l _ a).1
theorem seek_le {q : UInt8 → Bool} {l : List UInt8} {a b : Nat} (h : a ≤ b) : seekL q l a b ≤ b := by
  have := (seekFrom_le q l (b - a) a).2
  unfold seekL; omega
/-- What is sought is at r, if none of those ahead is of the class, and it is, or is the end. -/
theorem seekFrom_eq {q : UInt8 → Bool} {l : List UInt8} {r : Nat} : ∀ {n a : Nat}, a ≤ r → r ≤ a + n → (∀ j c, a ≤ j → j < r → l[j]? = some c → q c = false) → (r < a + n → ∃ c, l[r]? = some c ∧ q c = true) → seekFrom q l a n = r
  | 0, a, h1, h2, _, _ => by unfold seekFrom; omega
  | n + 1, a, h1, h2, h3, h4 => by
    unfold seekFrom
    by_cases e : a = r
    · subst e
      obtain ⟨c, hc, hq⟩ := h4 (by omega)
      rw [hc]; simp [hq]
    · have hf : (l[a]?.map q).getD false = false := by
        cases hc : l[a]? with
        | none => rfl
        | some c => exact h3 a c (Nat.le_refl _) (by omega) hc
      rw [hf]
      exact seekFrom_eq (by omega) (by omega) (fun j c h5 h6 => h3 j c (by omega) h6) (fun h => h4 (by omega))
theorem seek_eq {q : UInt8 → Bool} {l : List UInt8} {a b r : Nat} (h1 : a ≤ r) (h2 : r ≤ b) (h3 : ∀ j c, a ≤ j → j < r → l[j]? = some c → q c = false) (h4 : r < b → ∃ c, l[r]? = some c ∧ q c = true) : seekL q l a b = r :=
  seekFrom_eq h1 (by omega) h3 (fun h => h4 (by omega))
theorem seekFrom_none {q : UInt8 → Bool} {l : List UInt8} : ∀ {n a : Nat}, ∀ j c, a ≤ j → j < seekFrom q l a n → l[j]? = some c → q c = false
  | 0, a, j, c, h1, h2, _ => by unfold seekFrom at h2; omega
  | n + 1, a, j, c, h1, h2, h3 => by
    unfold seekFrom at h2
    split at h2
    · omega
    · rename_i hf
      by_cases e : j = a
      · subst e; rw [h3] at hf; simpa using hf
      · exact seekFrom_none j c (by omega) h2 h3
theorem seek_none {q : UInt8 → Bool} {l : List UInt8} {a b j : Nat} {c : UInt8} (h1 : a ≤ j) (h2 : j < seekL q l a b) (h3 : l[j]? = some c) : q c = false := seekFrom_none j c h1 h2 h3
theorem seekFrom_at {q : UInt8 → Bool} {l : List UInt8} : ∀ {n a : Nat}, seekFrom q l a n < a + n → ∃ c, l[seekFrom q l a n]? = some c ∧ q c = true
  | 0, a, h => by unfold seekFrom at h; omega
  | n + 1, a, h => by
    unfold seekFrom at h ⊢
    split at h
    · rename_i hf
      rw [if_pos hf]
      cases hc : l[a]? with
      | none => rw [hc] at hf; simp at hf
      | some c => rw [hc] at hf; exact ⟨c, rfl, by simpa using hf⟩
    · rename_i hf
      rw [if_neg hf]
      exact seekFrom_at (by omega)
theorem seek_at {q : UInt8 → Bool} {l : List UInt8} {a b : Nat} (hab : a ≤ b) (h : seekL q l a b < b) : ∃ c, l[seekL q l a b]? = some c ∧ q c = true :=
  seekFrom_at (by unfold seekL at h; omega)

/-- A blank. -/
def blk (c : UInt8) : Bool := c == 32 || c == 9
/-- No blank. -/
def ink (c : UInt8) : Bool := !(c == 32 || c == 9)

/-- The words of the n bytes of l from a on, told byte by byte. -/
def grow (l : List UInt8) (a i : Nat) (out : List (Nat × Nat)) : List (Nat × Nat) :=
  if (l[i]?.map blk).getD true then out
  else if a < i ∧ (l[i - 1]?.map blk).getD true = false then out.dropLast ++ [((out.getLast?.map Prod.fst).getD 0, i + 1)]
  else out ++ [(i, i + 1)]
def wds (l : List UInt8) (a : Nat) : Nat → List (Nat × Nat)
  | 0 => []
  | n + 1 => grow l a (a + n) (wds l a n)
def wordsL (l : List UInt8) (a b : Nat) : List (Nat × Nat) := wds l a (b - a)

theorem wds_blank {l : List UInt8} {a n c : Nat} (h : ∀ j x, a + n ≤ j → j < a + n + c → l[j]? = some x → blk x = true) : wds l a (n + c) = wds l a n := by
  induction c with
  | zero => rfl
  | succ c ih =>
    show grow l a (a + (n + c)) (wds l a (n + c)) = _
    rw [ih (fun j x h1 h2 => h j x h1 (by omega))]
    unfold grow
    rw [if_pos]
    cases hc : l[a + (n + c)]? with
    | none => rfl
    | some x => exact h _ x (by omega) (by omega) hc
theorem wds_word {l : List UInt8} {a n c : Nat} (hl : a + n + (c + 1) ≤ l.length) (h0 : n = 0 ∨ ∀ x, l[a + n - 1]? = some x → blk x = true) (h : ∀ j x, a + n ≤ j → j < a + n + (c + 1) → l[j]? = some x → blk x = false) : wds l a (n + (c + 1)) = wds l a n ++ [(a + n, a + n + (c + 1))] := by
  induction c with
  | zero =>
    show grow l a (a + n) (wds l a n) = _
    unfold grow
    have hc : l[a + n]? = some l[a + n] := List.getElem?_eq_getElem (by omega)
    have hb := h _ _ (Nat.le_refl _) (by omega) hc
    rw [if_neg (by rw [hc]; simp [hb]), if_neg]
    · rcases h0 with h0 | h0
      · subst h0; omega
      · rintro ⟨h1, h2⟩
        have hd : l[a + n - 1]? = some l[a + n - 1] := List.getElem?_eq_getElem (by omega)
        rw [hd] at h2
        have := h0 _ hd
        simp [this] at h2
  | succ c ih =>
    have ih := ih (by omega) (fun j x h1 h2 => h j x h1 (by omega))
    show grow l a (a + (n + (c + 1))) (wds l a (n + (c + 1))) = _
    rw [ih]
    unfold grow
    have hc : l[a + (n + (c + 1))]? = some l[a + (n + (c + 1))] := List.getElem?_eq_getElem (by omega)
    have hb := h _ _ (by omega) (by omega) hc
    have hd : l[a + (n + (c + 1)) - 1]? = some l[a + (n + (c + 1)) - 1] := List.getElem?_eq_getElem (by omega)
    have hb2 := h _ _ (by omega) (by omega) hd
    rw [if_neg (by rw [hc]; simp [hb]), if_pos ⟨by omega, by rw [hd]; simp [hb2]⟩]
    simp
    omega

theorem words_blank {l : List UInt8} {a b c : Nat} (hab : a ≤ b) (hbc : b ≤ c) (h : ∀ j x, b ≤ j → j < c → l[j]? = some x → blk x = true) : wordsL l a c = wordsL l a b := by
  have := wds_blank (l := l) (a := a) (n := b - a) (c := c - b) (fun j x h1 h2 => h j x (by omega) (by omega))
  rw [show b - a + (c - b) = c - a from by omega] at this
  exact this
theorem words_word {l : List UInt8} {a b c : Nat} (hab : a ≤ b) (hbc : b < c) (hl : c ≤ l.length) (h0 : b = a ∨ ∀ x, l[b - 1]? = some x → blk x = true) (h : ∀ j x, b ≤ j → j < c → l[j]? = some x → blk x = false) : wordsL l a c = wordsL l a b ++ [(b, c)] := by
  have := wds_word (l := l) (a := a) (n := b - a) (c := c - b - 1) (by omega) (by rcases h0 with h0 | h0; exact .inl (by omega); exact .inr (by rw [show a + (b - a) = b from by omega]; exact h0)) (fun j x h1 h2 => h j x (by omega) (by omega))
  rw [show b - a + (c - b - 1 + 1) = c - a from by omega, show a + (b - a) = b from by omega, show b + (c - b - 1 + 1) = c from by omega] at this
  exact this
theorem words_nil (l : List UInt8) (a : Nat) : wordsL l a a = [] := by unfold wordsL; rw [Nat.sub_self]; rfl
theorem words_len (l : List UInt8) (a b : Nat) : (wordsL l a b).length ≤ b - a := by
  unfold wordsL
  generalize b - a = n
  induction n with
  | zero => exact Nat.le_refl _
  | succ n ih =>
    show (grow l a (a + n) (wds l a n)).length ≤ _
    unfold grow
    split
    · omega
    · split
      · simp; omega
      · simp; omega
end Go.Wds
