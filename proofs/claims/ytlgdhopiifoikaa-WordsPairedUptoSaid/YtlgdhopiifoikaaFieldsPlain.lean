/- Plain facts on how words are told one by one; no program. -/
import Derived.Test.YtlgdhopiifoikaaPlain
namespace Go.Wds
theorem ink_not (c : UInt8) : ink c = !blk c := rfl
/-- k is where a word of the part begins, or its end. -/
def Ready (l : List UInt8) (a b k : Nat) : Prop := k < b → (k = a ∨ ∀ x, l[k - 1]? = some x → blk x = true) ∧ ∀ x, l[k]? = some x → blk x = false
theorem fields_start {l : List UInt8} {a b : Nat} (hab : a ≤ b) : a ≤ seekL ink l a b ∧ seekL ink l a b ≤ b ∧ wordsL l a (seekL ink l a b) = [] ∧ Ready l a b (seekL ink l a b) := by
  have h1 := seek_ge ink l a b
  have h2 := seek_le (q := ink) (l := l) hab
  have hbl : ∀ j x, a ≤ j → j < seekL ink l a b → l[j]? = some x → blk x = true := fun j x h3 h4 h5 => by
    have := seek_none h3 h4 h5
    rw [ink_not] at this
    simpa using this
  refine ⟨h1, h2, ?_, fun hk => ⟨?_, fun x hx => ?_⟩⟩
  · rw [words_blank (Nat.le_refl a) h1 hbl, words_nil]
  · by_cases e : seekL ink l a b = a
    · exact .inl e
    · exact .inr fun x hx => hbl _ x (by omega) (by omega) hx
  · obtain ⟨c, hc, hq⟩ := seek_at hab hk
    rw [hc] at hx
    cases hx
    rw [ink_not] at hq
    simpa using hq
theorem fields_step {l : List UInt8} {a b k : Nat} (hak : a ≤ k) (hk : k < b) (hb : b ≤ l.length) (hr : Ready l a b k) :
    k < seekL blk l k b ∧ seekL blk l k b ≤ b ∧ seekL blk l k b ≤ seekL ink l (seekL blk l k b) b ∧ seekL ink l (seekL blk l k b) b ≤ b ∧
    wordsL l a (seekL ink l (seekL blk l k b) b) = wordsL l a k ++ [(k, seekL blk l k b)] ∧ Ready l a b (seekL ink l (seekL blk l k b) b) := by
  obtain ⟨r1, r2⟩ := hr hk
  have h1 := seek_ge blk l k b
  have h2 := seek_le (q := blk) (l := l) (Nat.le_of_lt hk)
  have hn : ∀ j x, k ≤ j → j < seekL blk l k b → l[j]? = some x → blk x = false := fun j x h3 h4 h5 => seek_none h3 h4 h5
  have hlt : k < seekL blk l k b := by
    rcases Nat.lt_or_ge k (seekL blk l k b) with h | h
    · exact h
    · have e : seekL blk l k b = k := by omega
      obtain ⟨c, hc, hq⟩ := seek_at (q := blk) (l := l) (Nat.le_of_lt hk) (by omega)
      rw [e] at hc
      rw [r2 c hc] at hq
      cases hq
  have hat : seekL blk l k b < b → ∃ c, l[seekL blk l k b]? = some c ∧ blk c = true := fun h => seek_at (Nat.le_of_lt hk) h
  generalize seekL blk l k b = e at *
  have h3 := seek_ge ink l e b
  have h4 := seek_le (q := ink) (l := l) h2
  have hbl : ∀ j x, e ≤ j → j < seekL ink l e b → l[j]? = some x → blk x = true := fun j x h5 h6 h7 => by
    have := seek_none h5 h6 h7
    rw [ink_not] at this
    simpa using this
  refine ⟨hlt, h2, h3, h4, ?_, fun hk' => ?_⟩
  · rw [words_blank (by omega) h3 hbl, words_word hak hlt (by omega) r1 hn]
  · obtain ⟨c, hc, hq⟩ := seek_at (q := ink) (l := l) h2 hk'
    refine ⟨.inr fun x hx => ?_, fun x hx => ?_⟩
    · by_cases h5 : seekL ink l e b = e
      · obtain ⟨c', hc', hq'⟩ := hat (by omega)
        rw [h5, hc'] at hc
        cases hc
        rw [ink_not, hq'] at hq
        cases hq
      · exact hbl _ x (by omega) (by omega) hx
    · rw [hc] at hx
      cases hx
      rw [ink_not] at hq
      simpa using hq
end Go.Wds
