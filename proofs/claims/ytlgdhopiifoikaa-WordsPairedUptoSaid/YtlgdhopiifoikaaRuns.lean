/- Plain facts: what the words of a part are, told from its beginning; what a part is without blanks at its ends; no program. -/
import Derived.Test.YtlgdhopiifoikaaFieldsPlain
namespace Go.Wds
/-- All bytes from a up to b are blanks. -/
def Blank (l : List UInt8) (a b : Nat) : Prop := ∀ j x, a ≤ j → j < b → l[j]? = some x → blk x = true
/-- No byte from a up to b is a blank. -/
def Ink (l : List UInt8) (a b : Nat) : Prop := ∀ j x, a ≤ j → j < b → l[j]? = some x → blk x = false
/-- ps are the words from a up to b. -/
def Runs (l : List UInt8) (b : Nat) : Nat → List (Nat × Nat) → Prop
  | a, [] => Blank l a b
  | a, (p, q) :: r => a ≤ p ∧ p < q ∧ q ≤ b ∧ Blank l a p ∧ Ink l p q ∧ (q < b → ∀ x, l[q]? = some x → blk x = true) ∧ Runs l b q r

theorem wordsL_succ {l : List UInt8} {a k : Nat} (h : a ≤ k) : wordsL l a (k + 1) = grow l a k (wordsL l a k) := by
  unfold wordsL
  rw [show k + 1 - a = (k - a) + 1 from by omega]
  show grow l a (a + (k - a)) _ = _
  rw [show a + (k - a) = k from by omega]
theorem words_last {l : List UInt8} {a k : Nat} (h : a < k) {c : UInt8} (hc : l[k - 1]? = some c) (hb : blk c = false) : ∃ pre q, wordsL l a k = pre ++ [(q, k)] := by
  obtain ⟨n, rfl⟩ : ∃ n, k = n + 1 := ⟨k - 1, by omega⟩
  rw [wordsL_succ (by omega)]
  rw [Nat.add_sub_cancel] at hc
  unfold grow
  rw [if_neg (by rw [hc]; simp [hb])]
  split
  · exact ⟨_, _, rfl⟩
  · exact ⟨_, _, rfl⟩

/-- Behind the first word, which ends at a blank, the words are those from there. -/
theorem words_cons {l : List UInt8} {a k e : Nat} (hak : a ≤ k) (hke : k < e) (h0 : wordsL l a e = [(k, e)]) : ∀ n, e + n ≤ l.length → (0 < n → ∀ x, l[e]? = some x → blk x = true) → wordsL l a (e + n) = (k, e) :: wordsL l e (e + n)
  | 0, _, _ => by rw [Nat.add_zero, h0, words_nil]
  | n + 1, hl, hb => by
    have ih := words_cons hak hke h0 n (by omega) (fun _ => hb (by omega))
    have hc : l[e + n]? = some l[e + n] := List.getElem?_eq_getElem (by omega)
    rw [show e + (n + 1) = (e + n) + 1 from by omega, wordsL_succ (a := a) (by omega), wordsL_succ (a := e) (by omega), ih]
    unfold grow
    by_cases h1 : blk l[e + n] = true
    · rw [if_pos (by rw [hc]; simpa using h1), if_pos (by rw [hc]; simpa using h1)]
    · have h1' : blk l[e + n] = false := by simpa using h1
      have hn : n ≠ 0 := fun h => by
        subst h
        have := hb (by omega) _ hc
        rw [h1'] at this; cases this
      have hd : l[e + n - 1]? = some l[e + n - 1] := List.getElem?_eq_getElem (by omega)
      have A : ¬ ((l[e + n]?.map blk).getD true = true) := by rw [hc]; simp [h1']
      rw [if_neg A, if_neg A]
      by_cases h2 : blk l[e + n - 1] = false
      · have B : (l[e + n - 1]?.map blk).getD true = false := by rw [hd]; simpa using h2
        rw [if_pos ⟨by omega, B⟩, if_pos ⟨by omega, B⟩]
        obtain ⟨pre, q, hpre⟩ := words_last (a := e) (k := e + n) (by omega) hd h2
        have C : ((k, e) :: (pre ++ [(q, e + n)])).getLast? = some (q, e + n) := by rw [← List.cons_append, List.getLast?_append]; rfl
        rw [hpre, C]
        simp [List.dropLast_cons_of_ne_nil]
      · have B : ¬ ((l[e + n - 1]?.map blk).getD true = false) := by rw [hd]; simpa using h2
        rw [if_neg (fun h => B h.2), if_neg (fun h => B h.2)]
        rfl

theorem runs_words {l : List UInt8} {b : Nat} (hb : b ≤ l.length) : ∀ n a, a ≤ b → b - a ≤ n → Runs l b a (wordsL l a b) := by
  intro n
  induction n with
  | zero =>
    intro a hab hn
    have e : a = b := by omega
    subst e
    rw [words_nil]
    exact fun j x h1 h2 => by omega
  | succ n ih =>
    intro a hab hn
    obtain ⟨h1, h2, h3, h4⟩ := fields_start (l := l) hab
    have hbl : Blank l a (seekL ink l a b) := fun j x h5 h6 h7 => by
      have := seek_none h5 h6 h7
      rw [ink_not] at this
      simpa using this
    generalize seekL ink l a b = k at *
    by_cases hk : k < b
    · obtain ⟨r1, r2⟩ := h4 hk
      have g1 := seek_le (q := blk) (l := l) (Nat.le_of_lt hk)
      have hn2 : Ink l k (seekL blk l k b) := fun j x h5 h6 h7 => seek_none h5 h6 h7
      have hat : seekL blk l k b < b → ∃ c, l[seekL blk l k b]? = some c ∧ blk c = true := fun h => seek_at (Nat.le_of_lt hk) h
      have g0 := (fields_step h1 hk hb h4).1
      generalize seekL blk l k b = e at *
      have hw : wordsL l a e = [(k, e)] := by rw [words_word h1 g0 (by omega) r1 hn2, h3]; rfl
      have hend : e < b → ∀ x, l[e]? = some x → blk x = true := fun h x hx => by
        obtain ⟨c, hc, hq⟩ := hat h
        rw [hc] at hx; cases hx; exact hq
      have := words_cons h1 g0 hw (b - e) (by omega) (fun h => hend (by omega))
      rw [show e + (b - e) = b from by omega] at this
      rw [this]
      exact ⟨h1, g0, g1, hbl, hn2, hend, ih e g1 (by omega)⟩
    · have e : k = b := by omega
      subst e
      rw [h3]
      exact hbl
theorem runs_of {l : List UInt8} {a b : Nat} (hab : a ≤ b) (hb : b ≤ l.length) : Runs l b a (wordsL l a b) := runs_words hb (b - a) a hab (Nat.le_refl _)

theorem at_len {l : List UInt8} {j : Nat} (h : j < l.length) : ∃ x, l[j]? = some x := ⟨_, List.getElem?_eq_getElem h⟩
theorem blank_ink {l : List UInt8} {a b a' b' j : Nat} (hl : j < l.length) (h : Blank l a b) (h' : Ink l a' b') (h1 : a ≤ j) (h2 : j < b) (h3 : a' ≤ j) (h4 : j < b') : False := by
  obtain ⟨x, hx⟩ := at_len hl
  have := h j x h1 h2 hx
  rw [h' j x h3 h4 hx] at this
  cases this
/-- There is one way to tell words. -/
theorem runs_eq {l : List UInt8} {b : Nat} (hb : b ≤ l.length) : ∀ {ps qs : List (Nat × Nat)} {a : Nat}, Runs l b a ps → Runs l b a qs → ps = qs
  | [], [], _, _, _ => rfl
  | [], (p, q) :: qs, a, h, h' => by
    obtain ⟨h1, h2, h3, _, h5, _⟩ := h'
    exact (blank_ink (j := p) (by omega) h h5 h1 (by omega) (by omega) h2).elim
  | (p, q) :: ps, [], a, h, h' => by
    obtain ⟨h1, h2, h3, _, h5, _⟩ := h
    exact (blank_ink (j := p) (by omega) h' h5 h1 (by omega) (by omega) h2).elim
  | (p, q) :: ps, (p', q') :: qs, a, h, h' => by
    obtain ⟨h1, h2, h3, h4, h5, h6, h7⟩ := h
    obtain ⟨g1, g2, g3, g4, g5, g6, g7⟩ := h'
    have e1 : p = p' := by
      rcases Nat.lt_trichotomy p p' with h | h | h
      · exact (blank_ink (j := p) (by omega) g4 h5 h1 h (by omega) h2).elim
      · exact h
      · exact (blank_ink (j := p') (by omega) h4 g5 g1 h (by omega) g2).elim
    subst e1
    have e2 : q = q' := by
      rcases Nat.lt_trichotomy q q' with h | h | h
      · obtain ⟨x, hx⟩ := at_len (l := l) (j := q) (by omega)
        have := h6 (by omega) x hx
        rw [g5 q x (by omega) h hx] at this
        cases this
      · exact h
      · obtain ⟨x, hx⟩ := at_len (l := l) (j := q') (by omega)
        have := g6 (by omega) x hx
        rw [h5 q' x (by omega) h hx] at this
        cases this
    subst e2
    rw [runs_eq hb h7 g7]

/-- F up to T is a without blanks at its ends; of blanks alone the end. -/
def IsTrim (l : List UInt8) (a b F T : Nat) : Prop := a ≤ F ∧ F ≤ T ∧ T ≤ b ∧ Blank l a F ∧ Blank l T b ∧ (F = T → F = b) ∧ (F < T → (∀ x, l[F]? = some x → blk x = false) ∧ ∀ x, l[T - 1]? = some x → blk x = false)
theorem trim_unique {l : List UInt8} {a b F T F' T' : Nat} (hb : b ≤ l.length) (h : IsTrim l a b F T) (h' : IsTrim l a b F' T') : F = F' ∧ T = T' := by
  obtain ⟨h1, h2, h3, h4, h5, h6, h7⟩ := h
  obtain ⟨g1, g2, g3, g4, g5, g6, g7⟩ := h'
  have key : ∀ {F T F' T' : Nat}, F ≤ T → T ≤ b → (F < T → (∀ x, l[F]? = some x → blk x = false) ∧ ∀ x, l[T - 1]? = some x → blk x = false) → a ≤ F → Blank l a F' → Blank l T' b → F < T → F' ≤ F ∧ T ≤ T' := by
    intro F T F' T' i1 i2 i3 i4 i5 i6 i7
    obtain ⟨j1, j2⟩ := i3 i7
    obtain ⟨x, hx⟩ := at_len (l := l) (j := F) (by omega)
    obtain ⟨y, hy⟩ := at_len (l := l) (j := T - 1) (by omega)
    refine ⟨Nat.le_of_not_lt fun h => ?_, Nat.le_of_not_lt fun h => ?_⟩
    · have := i5 F x i4 h hx
      rw [j1 x hx] at this; cases this
    · have := i6 (T - 1) y (by omega) (by omega) hy
      rw [j2 y hy] at this; cases this
  by_cases e : F < T
  · obtain ⟨k1, k2⟩ := key h2 h3 h7 h1 g4 g5 e
    by_cases e' : F' < T'
    · obtain ⟨k3, k4⟩ := key g2 g3 g7 g1 h4 h5 e'
      omega
    · have := g6 (by omega)
      omega
  · have i1 := h6 (by omega)
    by_cases e' : F' < T'
    · obtain ⟨k3, k4⟩ := key g2 g3 g7 g1 h4 h5 e'
      omega
    · have := g6 (by omega)
      omega
/-- Without blanks at its ends. -/
def trimW (b : Nat) (ps : List (Nat × Nat)) : Nat × Nat := match ps with
  | [] => (b, b)
  | p :: r => (p.1, ((p :: r).getLast (by simp)).2)
def trimL (l : List UInt8) (a b : Nat) : Nat × Nat := trimW b (wordsL l a b)
theorem runs_trim {l : List UInt8} {b : Nat} : ∀ {ps : List (Nat × Nat)} {a p q : Nat}, Runs l b a ((p, q) :: ps) → ∀ T, T = (((p, q) :: ps).getLast (by simp)).2 → p < T ∧ T ≤ b ∧ Blank l T b ∧ (∀ x, l[T - 1]? = some x → blk x = false)
  | [], a, p, q, h, T, hT => by
    obtain ⟨h1, h2, h3, h4, h5, h6, h7⟩ := h
    have e : T = q := hT
    subst e
    exact ⟨h2, h3, h7, fun x hx => h5 _ x (by omega) (by omega) hx⟩
  | (p', q') :: ps, a, p, q, h, T, hT => by
    obtain ⟨h1, h2, h3, h4, h5, h6, h7⟩ := h
    obtain ⟨g1, g2, g3, g4⟩ := runs_trim h7 T (by rw [hT]; simp)
    have := h7.1
    exact ⟨by omega, g2, g3, g4⟩
theorem is_trim {l : List UInt8} {a b : Nat} (hab : a ≤ b) (hb : b ≤ l.length) : IsTrim l a b (trimL l a b).1 (trimL l a b).2 := by
  have h := runs_of hab hb
  unfold trimL
  cases hw : wordsL l a b with
  | nil =>
    rw [hw] at h
    show IsTrim l a b b b
    exact ⟨hab, Nat.le_refl _, Nat.le_refl _, h, fun j x h1 h2 => by omega, fun _ => rfl, fun h => by omega⟩
  | cons pq r =>
    obtain ⟨p, q⟩ := pq
    rw [hw] at h
    obtain ⟨g1, g2, g3, g4⟩ := runs_trim h _ rfl
    obtain ⟨h1, h2, h3, h4, h5, h6, h7⟩ := h
    refine ⟨h1, Nat.le_of_lt g1, g2, h4, g3, fun e => ?_, fun _ => ⟨fun x hx => h5 p x (Nat.le_refl _) h2 hx, g4⟩⟩
    exact absurd e (Nat.ne_of_lt g1)
end Go.Wds
