/- Plain facts on the signs of a text, on where a class of them is first met, and on words; no program. -/
import Derived.Laws.RangeAny
import Derived.RowKit
import Derived.Test.YtebkmcafahkdbaaShelf
import Derived.Laws.Runes
import Derived.Lib.Bytealg
import Derived.WalkKit
import Derived.Deep.QuietTactic
import Derived.BigQuiet
import Derived.Deep.LoopGhost
import Derived.Lib.Hide
import Derived.Lib.OthersKept
import Derived.WalkMore
import Derived.LoopNIn
import Derived.OwnWalkIn
import Derived.IntWalk
import Derived.OneCell
import Derived.Test.YtebkmcafahkdbaaG01
import Derived.Test.YtebkmcafahkdbaaG05
import Derived.Test.YtebkmcafahkdbaaG04
import Derived.Deep.DrawnRows
import Derived.Deep.RegionHeld3
namespace Go.Wds

theorem get_of (s : ByteArray) (k : Nat) (h : k < s.size) : s.get! k = s[k]'h := by
  have := get_at s k h; simpa using this
theorem list_get (s : ByteArray) (k : Nat) (h : k < s.size) : s.data.toList[k]? = some (s[k]'h) := by
  have h' : k < s.data.toList.length := by simpa using h
  rw [List.getElem?_eq_getElem h']; rfl

theorem cont_high (b : UInt8) (h : (b.toNat / 64 == 2) = true) : 128 ≤ b.toNat := by
  have h' : b.toNat / 64 = 2 := by simpa using h
  omega

/-- A sign that is no single low byte has high bytes alone. -/
theorem decode_wide (s : ByteArray) (pos : Nat) (h : pos < s.size) (ha : 128 ≤ (s[pos]'h).toNat) :
    128 ≤ (Utf8.decode s pos).1 ∧ 1 ≤ (Utf8.decode s pos).2 ∧ pos + (Utf8.decode s pos).2 ≤ s.size ∧ ∀ j, pos ≤ j → j < pos + (Utf8.decode s pos).2 → 128 ≤ (s.get! j).toNat := by
  have hb' : 128 ≤ (s.get! (pos + 0)).toNat := by rw [get_at s pos h]; exact ha
  have hh := decode_high s pos h (by omega)
  refine ⟨hh.1, hh.2, ?_⟩
  have hn : ¬ (s.get! (pos + 0)).toNat < 128 := by omega
  clear hh ha
  simp only [Utf8.decode]
  rw [if_neg (by simpa using hn)]
  have one : pos + 1 ≤ s.size ∧ ∀ j, pos ≤ j → j < pos + 1 → 128 ≤ (s.get! j).toNat := ⟨h, fun j h1 h2 => by
    have : j = pos := by omega
    subst this; simpa using hb'⟩
  have two : ∀ m, (m ≤ 3) → (∀ k, 1 ≤ k → k ≤ m → (decide (pos + k < s.size) && (s.get! (pos + k)).toNat / 64 == 2) = true) → pos + (m + 1) ≤ s.size ∧ ∀ j, pos ≤ j → j < pos + (m + 1) → 128 ≤ (s.get! j).toNat := by
    intro m hm hk
    refine ⟨?_, fun j h1 h2 => ?_⟩
    · rcases Nat.eq_zero_or_pos m with rfl | hp
      · exact h
      · have := hk m hp (Nat.le_refl _)
        simp at this; omega
    · by_cases e : j = pos
      · subst e; simpa using hb'
      · have := hk (j - pos) (by omega) (by omega)
        rw [Bool.and_eq_true] at this
        have := cont_high _ this.2
        rwa [show pos + (j - pos) = j from by omega] at this
  split
  · rename_i hc
    simp only [Bool.and_eq_true] at hc
    split
    · refine two 1 (by omega) fun k h1 h2 => ?_
      obtain rfl : k = 1 := by omega
      simpa using hc.2
    · exact one
  · split
    · rename_i hc
      simp only [Bool.and_eq_true] at hc
      split
      · refine two 2 (by omega) fun k h1 h2 => ?_
        rcases (by omega : k = 1 ∨ k = 2) with rfl | rfl
        · simpa using hc.1.2
        · simpa using hc.2
      · exact one
    · split
      · rename_i hc
        simp only [Bool.and_eq_true] at hc
        split
        · refine two 3 (by omega) fun k h1 h2 => ?_
          rcases (by omega : k = 1 ∨ k = 2 ∨ k = 3) with rfl | rfl | rfl
          · simpa using hc.1.1.2
          · simpa using hc.1.2
          · simpa using hc.2
        · exact one
      · exact one

/-- A class of signs that takes all of the high ones, or none. -/
def Flat (p : Nat → Bool) : Prop := ∀ r, 128 ≤ r → p r = p 128
/-- A class, asked of a byte. -/
def ofB (p : Nat → Bool) (c : UInt8) : Bool := p c.toNat

theorem class_step {p : Nat → Bool} (hp : Flat p) (s : ByteArray) (pos : Nat) (h : pos < s.size) :
    p (Utf8.decode s pos).1 = ofB p (s[pos]'h) ∧ 1 ≤ (Utf8.decode s pos).2 ∧ pos + (Utf8.decode s pos).2 ≤ s.size ∧
    (p (Utf8.decode s pos).1 = false → ∀ j, pos ≤ j → j < pos + (Utf8.decode s pos).2 → ofB p (s.get! j) = false) := by
  by_cases ha : (s[pos]'h).toNat < 128
  · rw [decode_ascii s pos h ha]
    refine ⟨rfl, Nat.le_refl _, h, fun hf j h1 h2 => ?_⟩
    have : j = pos := by simp at h2; omega
    subst this
    rw [get_of s j h]; exact hf
  · obtain ⟨h1, h2, h3, h4⟩ := decode_wide s pos h (by omega)
    have e1 : p (Utf8.decode s pos).1 = p 128 := hp _ h1
    refine ⟨?_, h2, h3, fun hf j h5 h6 => ?_⟩
    · rw [e1]; exact (hp _ (by omega)).symm
    · rw [e1] at hf
      unfold ofB
      rw [hp _ (h4 j h5 h6), hf]

/-- The place of the first byte of l of a class, of those from a up to b; b, if there is none. -/
def seekFrom (q : UInt8 → Bool) (l : List UInt8) (a : Nat) : Nat → Nat
  | 0 => a
  | n + 1 => if (l[a]?.map q).getD false then a else seekFrom q l (a + 1) n
def seekL (q : UInt8 → Bool) (l : List UInt8) (a b : Nat) : Nat := seekFrom q l a (b - a)

theorem seekFrom_le (q : UInt8 → Bool) (l : List UInt8) : ∀ n a, a ≤ seekFrom q l a n ∧ seekFrom q l a n ≤ a + n
  | 0, a => ⟨Nat.le_refl _, Nat.le_refl _⟩
  | n + 1, a => by
    unfold seekFrom
    split
    · omega
    · have := seekFrom_le q l n (a + 1); omega
theorem seek_ge (q : UInt8 → Bool) (l : List UInt8) (a b : Nat) : a ≤ seekL q l a b := (seekFrom_le q l _ a).1
theorem seek_le {q : UInt8 → Bool} {l : List UInt8} {a b : Nat} (h : a ≤ b) : seekL q l a b ≤ b := by
  have := (seekFrom_le q l (b - a) a).2
  unfold seekL; omega
/-- What is sought is at r, if none of those ahead is of the class, and it is, or is the end. -/
theorem seekFrom_eq {q : UInt8 → Bool} {l : List UInt8} {r : Nat} : ∀ {n a : Nat}, a ≤ r → r ≤ a + n → (∀ j c, a ≤ j → j < r → l[j]? = some c → q c = false) → (r < a + n → ∃ c, l[r]? = some c ∧ q c = true) → seekFrom q l a n = r
  | 0, a, h1, h2, _, _ => by unfold seekFrom; omega
  | n + 1, a, h1, h2, h3, h4 => by
    unfold seekFrom
    by_cases e : a = r
    · subst e
      obtain ⟨c, hc, hq⟩ := h4 (by omega)
      rw [hc]; simp [hq]
    · have hf : (l[a]?.map q).getD false = false := by
        cases hc : l[a]? with
        | none => rfl
        | some c => exact h3 a c (Nat.le_refl _) (by omega) hc
      rw [hf]
      exact seekFrom_eq (by omega) (by omega) (fun j c h5 h6 => h3 j c (by omega) h6) (fun h => h4 (by omega))
theorem seek_eq {q : UInt8 → Bool} {l : List UInt8} {a b r : Nat} (h1 : a ≤ r) (h2 : r ≤ b) (h3 : ∀ j c, a ≤ j → j < r → l[j]? = some c → q c = false) (h4 : r < b → ∃ c, l[r]? = some c ∧ q c = true) : seekL q l a b = r :=
  seekFrom_eq h1 (by omega) h3 (fun h => h4 (by omega))
theorem seekFrom_none {q : UInt8 → Bool} {l : List UInt8} : ∀ {n a : Nat}, ∀ j c, a ≤ j → j < seekFrom q l a n → l[j]? = some c → q c = false
  | 0, a, j, c, h1, h2, _ => by unfold seekFrom at h2; omega
  | n + 1, a, j, c, h1, h2, h3 => by
    unfold seekFrom at h2
    split at h2
    · omega
    · rename_i hf
      by_cases e : j = a
      · subst e; rw [h3] at hf; simpa using hf
      · exact seekFrom_none j c (by omega) h2 h3
theorem seek_none {q : UInt8 → Bool} {l : List UInt8} {a b j : Nat} {c : UInt8} (h1 : a ≤ j) (h2 : j < seekL q l a b) (h3 : l[j]? = some c) : q c = false := seekFrom_none j c h1 h2 h3
theorem seekFrom_at {q : UInt8 → Bool} {l : List UInt8} : ∀ {n a : Nat}, seekFrom q l a n < a + n → ∃ c, l[seekFrom q l a n]? = some c ∧ q c = true
  | 0, a, h => by unfold seekFrom at h; omega
  | n + 1, a, h => by
    unfold seekFrom at h ⊢
    split at h
    · rename_i hf
      rw [if_pos hf]
      cases hc : l[a]? with
      | none => rw [hc] at hf; simp at hf
      | some c => rw [hc] at hf; exact ⟨c, rfl, by simpa using hf⟩
    · rename_i hf
      rw [if_neg hf]
      exact seekFrom_at (by omega)
theorem seek_at {q : UInt8 → Bool} {l : List UInt8} {a b : Nat} (hab : a ≤ b) (h : seekL q l a b < b) : ∃ c, l[seekL q l a b]? = some c ∧ q c = true :=
  seekFrom_at (by unfold seekL at h; omega)

/-- A blank. -/
def blk (c : UInt8) : Bool := c == 32 || c == 9
/-- No blank. -/
def ink (c : UInt8) : Bool := !(c == 32 || c == 9)

/-- The words of the n bytes of l from a on, told byte by byte. -/
def grow (l : List UInt8) (a i : Nat) (out : List (Nat × Nat)) : List (Nat × Nat) :=
  if (l[i]?.map blk).getD true then out
  else if a < i ∧ (l[i - 1]?.map blk).getD true = false then out.dropLast ++ [((out.getLast?.map Prod.fst).getD 0, i + 1)]
  else out ++ [(i, i + 1)]
def wds (l : List UInt8) (a : Nat) : Nat → List (Nat × Nat)
  | 0 => []
  | n + 1 => grow l a (a + n) (wds l a n)
def wordsL (l : List UInt8) (a b : Nat) : List (Nat × Nat) := wds l a (b - a)

theorem wds_blank {l : List UInt8} {a n c : Nat} (h : ∀ j x, a + n ≤ j → j < a + n + c → l[j]? = some x → blk x = true) : wds l a (n + c) = wds l a n := by
  induction c with
  | zero => rfl
  | succ c ih =>
    show grow l a (a + (n + c)) (wds l a (n + c)) = _
    rw [ih (fun j x h1 h2 => h j x h1 (by omega))]
    unfold grow
    rw [if_pos]
    cases hc : l[a + (n + c)]? with
    | none => rfl
    | some x => exact h _ x (by omega) (by omega) hc
theorem wds_word {l : List UInt8} {a n c : Nat} (hl : a + n + (c + 1) ≤ l.length) (h0 : n = 0 ∨ ∀ x, l[a + n - 1]? = some x → blk x = true) (h : ∀ j x, a + n ≤ j → j < a + n + (c + 1) → l[j]? = some x → blk x = false) : wds l a (n + (c + 1)) = wds l a n ++ [(a + n, a + n + (c + 1))] := by
  induction c with
  | zero =>
    show grow l a (a + n) (wds l a n) = _
    unfold grow
    have hc : l[a + n]? = some l[a + n] := List.getElem?_eq_getElem (by omega)
    have hb := h _ _ (Nat.le_refl _) (by omega) hc
    rw [if_neg (by rw [hc]; simp [hb]), if_neg]
    · rcases h0 with h0 | h0
      · subst h0; omega
      · rintro ⟨h1, h2⟩
        have hd : l[a + n - 1]? = some l[a + n - 1] := List.getElem?_eq_getElem (by omega)
        rw [hd] at h2
        have := h0 _ hd
        simp [this] at h2
  | succ c ih =>
    have ih := ih (by omega) (fun j x h1 h2 => h j x h1 (by omega))
    show grow l a (a + (n + (c + 1))) (wds l a (n + (c + 1))) = _
    rw [ih]
    unfold grow
    have hc : l[a + (n + (c + 1))]? = some l[a + (n + (c + 1))] := List.getElem?_eq_getElem (by omega)
    have hb := h _ _ (by omega) (by omega) hc
    have hd : l[a + (n + (c + 1)) - 1]? = some l[a + (n + (c + 1)) - 1] := List.getElem?_eq_getElem (by omega)
    have hb2 := h _ _ (by omega) (by omega) hd
    rw [if_neg (by rw [hc]; simp [hb]), if_pos ⟨by omega, by rw [hd]; simp [hb2]⟩]
    simp
    omega

theorem words_blank {l : List UInt8} {a b c : Nat} (hab : a ≤ b) (hbc : b ≤ c) (h : ∀ j x, b ≤ j → j < c → l[j]? = some x → blk x = true) : wordsL l a c = wordsL l a b := by
  have := wds_blank (l := l) (a := a) (n := b - a) (c := c - b) (fun j x h1 h2 => h j x (by omega) (by omega))
  rw [show b - a + (c - b) = c - a from by omega] at this
  exact this
theorem words_word {l : List UInt8} {a b c : Nat} (hab : a ≤ b) (hbc : b < c) (hl : c ≤ l.length) (h0 : b = a ∨ ∀ x, l[b - 1]? = some x → blk x = true) (h : ∀ j x, b ≤ j → j < c → l[j]? = some x → blk x = false) : wordsL l a c = wordsL l a b ++ [(b, c)] := by
  have := wds_word (l := l) (a := a) (n := b - a) (c := c - b - 1) (by omega) (by rcases h0 with h0 | h0; exact .inl (by omega); exact .inr (by rw [show a + (b - a) = b from by omega]; exact h0)) (fun j x h1 h2 => h j x (by omega) (by omega))
  rw [show b - a + (c - b - 1 + 1) = c - a from by omega, show a + (b - a) = b from by omega, show b + (c - b - 1 + 1) = c from by omega] at this
  exact this
theorem words_nil (l : List UInt8) (a : Nat) : wordsL l a a = [] := by unfold wordsL; rw [Nat.sub_self]; rfl
theorem words_len (l : List UInt8) (a b : Nat) : (wordsL l a b).length ≤ b - a := by
  unfold wordsL
  generalize b - a = n
  induction n with
  | zero => exact Nat.le_refl _
  | succ n ih =>
    show (grow l a (a + n) (wds l a n)).length ≤ _
    unfold grow
    split
    · omega
    · split
      · simp; omega
      · simp; omega
end Go.Wds
/- strings.IndexRune and strings.ContainsRune in this program, at a text of low bytes. Conditions: the text's bytes are all below 128; the sign is one that a decoder can tell. -/
namespace Go.Wds
theorem indexByte_ge (l : List UInt8) (c : UInt8) : -1 ≤ Lib.indexByte l c := by
  induction l with
  | nil => exact Int.le_refl _
  | cons b l ih =>
    unfold Lib.indexByte
    split
    · omega
    · split
      · omega
      · omega
theorem indexByte_mem (l : List UInt8) (c : UInt8) : decide (0 ≤ Lib.indexByte l c) = l.any (fun x => x == c) := by
  induction l with
  | nil => rfl
  | cons b l ih =>
    unfold Lib.indexByte
    have h1 := indexByte_ge l c
    rw [List.any_cons, ← ih]
    cases hb : b == c with
    | true => simp
    | false =>
      rw [Bool.false_or]
      by_cases h2 : Lib.indexByte l c = -1
      · simp [h2]
      · have h3 : (Lib.indexByte l c == -1) = false := by rw [beq_eq_false_iff_ne]; exact h2
        rw [if_neg (by simp), if_neg (by rw [h3]; simp), decide_eq_decide]; omega
theorem indexByte_none {l : List UInt8} {c : UInt8} (h : ∀ x ∈ l, x ≠ c) : Lib.indexByte l c = -1 := by
  have h1 := indexByte_mem l c
  have h2 := indexByte_ge l c
  have h3 : l.any (fun x => x == c) = false := by
    rw [List.any_eq_false]
    intro x hx
    simpa using h x hx
  rw [h3, decide_eq_false_iff_not] at h1
  omega
/-- A text of low bytes. -/
def Low (s : ByteArray) : Prop := ∀ x ∈ s.data.toList, x.toNat < 128
theorem Low.at {s : ByteArray} (h : Low s) (k : Nat) (hk : k < s.size) : (s[k]'hk).toNat < 128 :=
  h _ (List.mem_of_getElem? (list_get s k hk))
/-- Whether a text has a sign. -/
def has (s : ByteArray) (r : Nat) : Bool := s.data.toList.any (fun c => c.toNat == r)
theorem has_high {s : ByteArray} (h : Low s) {r : Nat} (hr : 128 ≤ r) : has s r = false := by
  unfold has
  rw [List.any_eq_false]
  intro x hx
  have := h x hx
  simp; omega
theorem has_low (s : ByteArray) {r : Nat} (hr : r < 128) : decide (0 ≤ Lib.indexByte s.data.toList (r : Int).toNat.toUInt8) = has s r := by
  rw [indexByte_mem]
  unfold has
  congr 1
  funext x
  have h1 : ((r : Int).toNat.toUInt8).toNat = r := by simp; omega
  rw [Bool.eq_iff_iff, beq_iff_eq, beq_iff_eq, ← UInt8.toNat_inj, h1]
end Go.Wds
namespace Go.Proofs
open Go.RowKit Go.Shelf Go.Wds

set_option maxRecDepth 100000 in
set_option maxHeartbeats 2000000 in
theorem Try.IndexRune_high (s : ByteArray) (r : Nat) (w : World) (hlow : Low s) (h0 : 128 ≤ r) (h1 : r ≤ 1114111) :
    Calls Try.prog 92 #[.string s, .int .i32 (r : Int)] w fun e w' => e = .returned (.int .i64 (-1)) ∧ Below w.heap.size w w' := by
  have d1 : decide ((0 : Int) ≤ (r : Int)) = true := decide_eq_true (by omega)
  have d2 : decide ((r : Int) < 128) = false := decide_eq_false (by omega)
  by_cases he : r = 65533
  · subst he
    have hn := fun (wr : World) (pos : Nat) (ty : TypeId) hk h => Lib.run_next_any_at (P := Try.prog) wr w.heap.size s pos ty hk h
    have hend := fun (wr : World) (pos : Nat) (ty : TypeId) hk h => Lib.run_next_end_at (P := Try.prog) wr w.heap.size s pos ty hk h
    clear d1 d2
    go_enter Try.func92, Try.ntmps92
    go_wp2
    go_loopw [] (fun wr => ∃ pos : Nat, wr.heap[w.heap.size]? = some (.stringIter s pos) ∧ pos ≤ s.size ∧ Below w.heap.size w wr) (fun wr => s.size - wr.iterPos w.heap.size)
    case atStart => exact ⟨0, World.iter_heap w s 0, Nat.zero_le _, (Below.refl _ w).alloc (Nat.le_refl _) _⟩
    case round =>
      obtain ⟨pos, hit, hpos, hB⟩ := hrel
      by_cases hlt : pos < s.size
      · have hn' := fun ty => hn wr pos ty hit hlt
        have hl := hlow.at pos hlt
        rw [decode_ascii s pos hlt hl] at hn'
        have hne : (((s[pos]'hlt).toNat : Int) == 65533) = false := by rw [beq_eq_false_iff_ne]; omega
        have hit2 := Lib.iterAt_heap wr w.heap.size s pos (pos + 1) hit
        have hB2 := Lib.below_iterAt hB (k := w.heap.size) (Nat.le_refl _) s (pos + 1)
        clear hn hend hl hlow
        go_wp2
        go_roundw
        case rel => exact ⟨pos + 1, hit2, by omega, hB2⟩
        case measure => simp [World.iterPos, hit, hit2]; omega
      · have he' := fun ty => hend wr pos ty hit hlt
        clear hn hend hlow
        go_wp2
        go_ret
        exact ⟨rfl, hB⟩
  · have d3 : ((r : Int) == 65533) = false := by rw [beq_eq_false_iff_ne]; omega
    cases hv : Lib.validRune (r : Int) with
    | false =>
      have hc := Lib.hid (Try.utf8_ValidRune (r : Int))
      rw [hv] at hc
      clear he
      go_enter Try.func92, Try.ntmps92
      go_wp2_with (go_at_call 95; (with_reducible refine (hc.out _).mono ?_); rintro e w' ⟨rfl, rfl⟩)
      go_ret
      exact ⟨rfl, Below.refl _ _⟩
    | true =>
      have hc := Lib.hid (Try.utf8_ValidRune (r : Int))
      rw [hv] at hc
      have hval : Utf8.valid (r : Int) = true := by
        simp only [Lib.validRune, Utf8.valid] at hv ⊢
        simp at hv ⊢
        omega
      obtain ⟨e1, e2, e3⟩ := encode_facts (r : Int) hval (by omega)
      obtain ⟨E, hE⟩ : ∃ E, Utf8.encode (r : Int) = E := ⟨_, rfl⟩
      rw [hE] at e1 e2 e3
      have E3 := Lib.hid (e3 (by omega))
      obtain ⟨n, hn⟩ : ∃ n, E.size = n + 1 := ⟨E.size - 1, by omega⟩
      have HN := Lib.hid hn
      have hb0 : ((E.size : Int) - 1) = (n : Int) := by omega
      have hn3 : n ≤ 3 := by omega
      clear he hv hval e3 hn
      go_enter Try.func92, Try.ntmps92
      go_wp2_with (go_at_call 95; (with_reducible refine (hc.out _).mono ?_); rintro e w' ⟨rfl, rfl⟩)
      clear hc d1 d2 d3
      go_step3
      go_wp2
      clear hE
      clear hb0
      go_loopw [9] (fun i wr => i = .int .i64 (n : Int) ∧ wr = w') (fun _ _ => 0)
      case atStart => exact ⟨rfl, rfl⟩
      case round =>
        obtain ⟨rfl, rfl⟩ := hrel
        have hkE : n < E.size := by have := HN.out; omega
        by_cases hk : n < s.size
        · have h4 : 128 ≤ (E[n]'hkE).toNat := by
            have h := E3.out
            simpa only [HN.out, Nat.add_sub_cancel] using h
          have hne : (((s[n]'hk).toNat : Int) != ((E[n]'hkE).toNat : Int)) = true := by
            rw [bne_iff_ne]
            have h3 := hlow.at _ hk
            omega
          have hi : ∀ W : World, Calls Try.prog 94 #[.string (s.extract (n + 1) s.size), .int .u8 ((E[n]'hkE).toNat : Int)] W fun e w' => e = .returned (.int .i64 (-1)) ∧ w' = W := by
            intro W
            have h := Try.strings_IndexByte (s.extract (n + 1) s.size) ((E[n]'hkE).toNat : Int) W
            rw [indexByte_none] at h
            · exact h
            · intro x hx e
              have h5 : x ∈ s.data.toList := by
                simp only [ByteArray.data_extract, Array.toList_extract, List.extract_eq_take_drop] at hx
                exact List.mem_of_mem_drop (List.mem_of_mem_take hx)
              have h6 := hlow x h5
              subst e
              simp at h6
              omega
          have w1 : IntKind.i64.wrap ((n : Int) + 1) = (n : Int) + 1 := IntWalk.i64_in _ (by omega)
          have w2 : ((n : Int) + 1).toNat = n + 1 := by omega
          have hx1 : (n : Int) < (s.size : Int) := by omega
          have hx2 : (n : Int) < (E.size : Int) := by omega
          have hx3 : (n : Int) + 1 ≤ (s.size : Int) := by omega
          have hx4 : (0 : Int) ≤ (n : Int) + 1 := by omega
          have hx5 : n + 1 ≤ s.size := by omega
          have hi2 := Lib.hid hi
          clear hi E3 hlow h4
          go_wp2
          go_step3
          go_wp2
          go_quiet (fail)
          obtain ⟨V, hV⟩ : ∃ V, V = wr.drewN nq := ⟨_, rfl⟩
          rw [← hV]
          have hBV : Below wr.heap.size wr V := by rw [hV]; exact ⟨rfl, rfl, rfl, Nat.le_refl _, fun _ _ => rfl⟩
          clear hV
          go_wp2
          go_quiet ((go_at_call 94; exact Calls.quiet_of_same (hi2.out _)))
          go_wp2
          try rw [Exit.noGoto_ret]
          simp only [Exit.inBlock]
          go_wp2
          try rw [Exit.noGoto_ret]
          go_ret
          exact ⟨rfl, hBV.trans ⟨rfl, rfl, rfl, Nat.le_refl _, fun _ _ => rfl⟩⟩
        · clear E3 hlow
          go_wp2
          try rw [Exit.noGoto_ret]
          go_ret
          exact ⟨rfl, Below.refl _ _⟩

set_option maxRecDepth 100000 in
theorem Try.ContainsRune_calls (s : ByteArray) (r : Nat) (w : World) (hlow : Low s) (h1 : r ≤ 1114111) :
    Calls Try.prog 89 #[.string s, .int .i32 (r : Int)] w fun e w' => e = .returned (.bool (has s r)) ∧ Below w.heap.size w w' := by
  by_cases h : r < 128
  · refine (Try.strings_ContainsRune_ascii s (r : Int) w (by omega) (by omega)).mono ?_
    rintro e w' ⟨rfl, rfl⟩
    exact ⟨by rw [has_low s h], Below.refl _ _⟩
  · have hc := Lib.hid fun w => Try.IndexRune_high s r w hlow (by omega) h1
    have hf := Lib.hid (has_high hlow (show 128 ≤ r by omega))
    clear h h1 hlow
    go_enter Try.func89, Try.ntmps89
    go_wp2_with (go_at_call 92; (with_reducible refine (hc.out _).mono ?_); rintro e w1 ⟨rfl, hb⟩)
    go_ret
    rw [hf.out]
    exact ⟨rfl, hb⟩
#print axioms Try.IndexRune_high
#print axioms Try.ContainsRune_calls
end Go.Proofs
/- The classes of signs of this program: what the closures of words.oneOf, span, not and either answer. Conditions: signs that a decoder can tell; a list of low bytes. -/
namespace Go.Proofs
open Go.RowKit Go.Shelf Go.Wds

/-- The closure g with what it holds, lb, is the class p: in w and in whatever w grows into. -/
def Class (g : Nat) (lb : Array Value) (p : Nat → Bool) (w : World) : Prop :=
  ∀ (W : World) (x : Nat), x ≤ 1114111 → Below w.heap.size w W → Calls Try.prog g (#[.int .i32 (x : Int)] ++ lb) W fun e w' => e = .returned (.bool (p x)) ∧ Below W.heap.size W w'
theorem Class.later {g : Nat} {lb : Array Value} {p : Nat → Bool} {w W : World} (h : Class g lb p w) (hb : Below w.heap.size w W) : Class g lb p W :=
  fun W' x hx hb' => h W' x hx (hb.trans (hb'.mono hb.size))
/-- A value of a class, and what it is to call it. -/
def IsClass (v : Value) (p : Nat → Bool) (w : World) : Prop :=
  ∃ (g : Nat) (lb : Array Value), v = .func (.func g) #[] lb ∧ (∀ args w, (callFunc g args).run Try.prog w = .ok (.enter g args) w) ∧ Class g lb p w
theorem IsClass.later {v : Value} {p : Nat → Bool} {w W : World} (h : IsClass v p w) (hb : Below w.heap.size w W) : IsClass v p W := by
  obtain ⟨g, lb, h1, h2, h3⟩ := h
  exact ⟨g, lb, h1, h2, h3.later hb⟩

theorem Try.enters37 : ∀ args w, (callFunc 88 args).run Try.prog w = .ok (.enter 88 args) w := enters_of Try.func88 (by kernel_rfl) rfl
theorem Try.enters39 : ∀ args w, (callFunc 93 args).run Try.prog w = .ok (.enter 93 args) w := enters_of Try.func93 (by kernel_rfl) rfl
theorem Try.enters40 : ∀ args w, (callFunc 86 args).run Try.prog w = .ok (.enter 86 args) w := enters_of Try.func86 (by kernel_rfl) rfl
theorem Try.enters41 : ∀ args w, (callFunc 87 args).run Try.prog w = .ok (.enter 87 args) w := enters_of Try.func87 (by kernel_rfl) rfl

/-- The box of a closure: a cell of w that stands. -/
def Box (w : World) (b : Nat) (v : Value) : Prop := b < w.heap.size ∧ w.cell? ⟨b, 0, none⟩ = some v
theorem Box.later {w W : World} {b : Nat} {v : Value} (h : Box w b v) {n : Nat} (hb : Below n w W) (hn : b < n) : Box W b v :=
  ⟨Nat.lt_of_lt_of_le h.1 hb.size, (hb.cell (p := ⟨b, 0, none⟩) hn).trans h.2⟩
theorem Box.new (w : World) (v : Value) (t : TypeId) : Box (w.alloc (.cells #[v] t)) w.heap.size v := ⟨by simp, by simp⟩

theorem Try.class_oneOf (s : ByteArray) (b : Nat) (w : World) (hlow : Low s) (hb : Box w b (.string s)) : Class 88 #[.pointer (some ⟨b, 0, none⟩)] (has s) w := by
  intro W x hx hW
  have hc := Lib.hid fun w => Try.ContainsRune_calls s x w hlow hx
  have h0 := (hb.later hW hb.1).2
  clear hlow hW hb
  go_enter Try.func88, Try.ntmps88
  go_wp2_with (go_at_call 89; (with_reducible refine (hc.out _).mono ?_); rintro e w1 ⟨rfl, hb1⟩)
  go_ret
  exact ⟨rfl, hb1⟩

def between (a b : Nat) (r : Nat) : Bool := decide (a ≤ r) && decide (r ≤ b)
theorem Try.class_span (a c : Nat) (b b' : Nat) (w : World) (hb : Box w b (.int .i32 (a : Int))) (hb' : Box w b' (.int .i32 (c : Int))) : Class 87 #[.pointer (some ⟨b, 0, none⟩), .pointer (some ⟨b', 0, none⟩)] (between a c) w := by
  intro W x hx hW
  have h0 := (hb.later hW hb.1).2
  have h1 := (hb'.later hW hb'.1).2
  clear hW hb hb'
  unfold between
  by_cases h2 : a ≤ x
  · have d1 : decide (a ≤ x) = true := decide_eq_true h2
    by_cases h3 : x ≤ c
    · have d2 : decide (x ≤ c) = true := decide_eq_true h3
      rw [d1, d2]
      clear h2 h3
      go_enter Try.func87, Try.ntmps87
      go_wp2
      go_ret
      exact ⟨rfl, Below.refl _ _⟩
    · have d2 : decide (x ≤ c) = false := decide_eq_false h3
      rw [d1, d2]
      clear h2 h3
      go_enter Try.func87, Try.ntmps87
      go_wp2
      go_ret
      exact ⟨rfl, Below.refl _ _⟩
  · have d1 : decide (a ≤ x) = false := decide_eq_false h2
    rw [d1, Bool.false_and]
    clear h2
    go_enter Try.func87, Try.ntmps87
    go_wp2
    go_ret
    exact ⟨rfl, Below.refl _ _⟩

theorem Try.class_not {v : Value} {p : Nat → Bool} {b : Nat} {w : World} (hv : IsClass v p w) (hb : Box w b v) : Class 93 #[.pointer (some ⟨b, 0, none⟩)] (fun x => !p x) w := by
  obtain ⟨g, lb, rfl, eg, hcl⟩ := hv
  intro W x hx hW
  have h0 := (hb.later hW hb.1).2
  have hc := Lib.hid (hcl W x hx hW)
  clear hcl hW hb
  cases hp : p x <;> rw [hp] at hc
  all_goals
    have HP := Lib.hid hp
    clear hp
    go_enter Try.func93, Try.ntmps93
    go_wp2_with (go_at_fn g; refine hc.out.mono ?_; rintro e w1 ⟨rfl, hb1⟩)
    go_ret
    rw [HP.out]
    exact ⟨rfl, hb1⟩

/-- The block g holds classes ps. -/
def Hold (w : World) (g : Nat) (ps : List (Nat → Bool)) : Prop :=
  g < w.heap.size ∧ ∀ (i : Nat) (p : Nat → Bool), ps[i]? = some p → ∃ v, w.cell? ⟨g, i, none⟩ = some v ∧ IsClass v p w
theorem Hold.later {w W : World} {g : Nat} {ps : List (Nat → Bool)} (h : Hold w g ps) (hb : Below w.heap.size w W) : Hold W g ps := by
  refine ⟨Nat.lt_of_lt_of_le h.1 hb.size, fun i p hp => ?_⟩
  obtain ⟨v, h1, h2⟩ := h.2 i p hp
  exact ⟨v, (hb.cell (p := ⟨g, i, none⟩) h.1).trans h1, h2.later hb⟩
def anyOf (ps : List (Nat → Bool)) (x : Nat) : Bool := ps.any (fun p => p x)
theorem any_step {ps : List (Nat → Bool)} {k : Nat} {p : Nat → Bool} (h : ps[k]? = some p) (x : Nat) : anyOf (ps.drop k) x = (p x || anyOf (ps.drop (k + 1)) x) := by
  obtain ⟨hk, rfl⟩ := List.getElem?_eq_some_iff.1 h
  rw [List.drop_eq_getElem_cons hk]; rfl

set_option maxRecDepth 100000 in
set_option maxHeartbeats 1000000 in
theorem Try.class_either {g cap b : Nat} {ps : List (Nat → Bool)} {w : World} (hl : ps.length ≤ 100) (hv : Hold w g ps) (hb : Box w b (.slice (some ⟨g, 0, none⟩) ps.length cap)) : Class 86 #[.pointer (some ⟨b, 0, none⟩)] (anyOf ps) w := by
  intro W x hx hW
  have h0 := (hb.later hW hb.1).2
  have HV := Lib.hid (hv.later hW)
  clear hW hb hv
  go_enter Try.func86, Try.ntmps86
  go_wp2
  go_loopw [8] (fun i wr => ∃ k : Nat, k ≤ ps.length ∧ i = .int .i64 (k : Int) ∧ anyOf ps x = anyOf (ps.drop k) x ∧ Below W.heap.size W wr) (fun i _ => ps.length - (intOf i).toNat)
  case atStart => exact ⟨0, Nat.zero_le _, rfl, rfl, Below.refl _ _⟩
  case round =>
    obtain ⟨k, hk, rfl, he, hB⟩ := hrel
    by_cases hlt : k < ps.length
    · have hp : ps[k]? = some ps[k] := List.getElem?_eq_getElem hlt
      obtain ⟨v, h1, gv, lb, rfl, eg, hcl⟩ := (HV.out.later hB).2 k _ hp
      rw [any_step hp] at he
      have hc := Lib.hid (hcl wr x hx (Below.refl _ _))
      clear hcl hp
      cases hpx : ps[k] x with
      | true =>
        rw [hpx] at hc he
        have HE := Lib.hid he
        clear he hpx
        go_wp2_with (go_at_fn gv; refine hc.out.mono ?_; rintro e w1 ⟨rfl, hb1⟩)
        go_ret
        rw [HE.out]
        exact ⟨rfl, hB.trans (hb1.mono hB.size)⟩
      | false =>
        rw [hpx] at hc he
        have HE := Lib.hid he
        clear he hpx
        go_wp2_with (go_at_fn gv; refine hc.out.mono ?_; rintro e w1 ⟨rfl, hb1⟩)
        go_roundw
        case rel => exact ⟨k + 1, by omega, by go_num, by rw [HE.out, Bool.false_or], hB.trans (hb1.mono hB.size)⟩
        case measure => simp [intOf]; omega
    · have hkk : k = ps.length := by omega
      subst hkk
      rw [List.drop_length] at he
      have HE := Lib.hid he
      clear he
      go_wp2
      go_ret
      rw [HE.out]
      exact ⟨rfl, hB⟩

theorem Try.oneOf_calls (s : ByteArray) (w : World) (hlow : Low s) :
    Calls Try.prog 83 #[.string s] w fun e w' => ∃ v, e = .returned v ∧ IsClass v (has s) w' ∧ Below w.heap.size w w' := by
  have HL := Lib.hid hlow
  clear hlow
  go_enter Try.func83, Try.ntmps83
  go_wp2
  go_ret
  exact ⟨_, rfl, ⟨88, _, rfl, Try.enters37, Try.class_oneOf s w.heap.size _ HL.out (Box.new _ _ _)⟩, (Below.refl _ _).alloc (Nat.le_refl _) _⟩
theorem Try.span_calls (a c : Nat) (w : World) :
    Calls Try.prog 82 #[.int .i32 (a : Int), .int .i32 (c : Int)] w fun e w' => ∃ v, e = .returned v ∧ IsClass v (between a c) w' ∧ Below w.heap.size w w' := by
  go_enter Try.func82, Try.ntmps82
  go_wp2
  go_ret
  have k1 : Below w.heap.size w (w.alloc (.cells #[.int .i32 (a : Int)] 21)) := (Below.refl _ _).alloc (Nat.le_refl _) _
  have k2 : Below (w.heap.size + 1) (w.alloc (.cells #[.int .i32 (a : Int)] 21)) ((w.alloc (.cells #[.int .i32 (a : Int)] 21)).alloc (.cells #[.int .i32 (c : Int)] 21)) := (Below.refl _ _).alloc (by simp) _
  have b1 := (Box.new w (.int .i32 (a : Int)) 21).later k2 (by omega)
  have b2 := Box.new (w.alloc (.cells #[.int .i32 (a : Int)] 21)) (.int .i32 (c : Int)) 21
  rw [show (w.alloc (.cells #[.int .i32 (a : Int)] 21)).heap.size = w.heap.size + 1 from by simp] at b2
  exact ⟨_, rfl, ⟨87, _, rfl, Try.enters41, Try.class_span a c w.heap.size (w.heap.size + 1) _ b1 b2⟩, k1.trans (k2.mono (by omega))⟩
theorem Try.not_calls {v : Value} {p : Nat → Bool} {w : World} (hv : IsClass v p w) :
    Calls Try.prog 91 #[v] w fun e w' => ∃ v', e = .returned v' ∧ IsClass v' (fun x => !p x) w' ∧ Below w.heap.size w w' := by
  have HV := Lib.hid hv
  obtain ⟨g, lb, rfl, _⟩ := hv
  go_enter Try.func91, Try.ntmps91
  go_wp2
  go_ret
  have hb := fun o => Below.alloc (Below.refl w.heap.size w) (Nat.le_refl _) o
  exact ⟨_, rfl, ⟨93, _, rfl, Try.enters39, Try.class_not (HV.out.later (hb _)) (Box.new _ _ _)⟩, hb _⟩
theorem Try.either_calls {g cap : Nat} {ps : List (Nat → Bool)} {w : World} (hl : ps.length ≤ 100) (hv : Hold w g ps) :
    Calls Try.prog 81 #[.slice (some ⟨g, 0, none⟩) ps.length cap] w fun e w' => ∃ v', e = .returned v' ∧ IsClass v' (anyOf ps) w' ∧ Below w.heap.size w w' := by
  have HV := Lib.hid hv
  clear hv
  go_enter Try.func81, Try.ntmps81
  go_wp2
  go_ret
  have hb : Below w.heap.size w (w.alloc (.cells #[.slice (some ⟨g, 0, none⟩) ps.length cap] 89)) := (Below.refl _ _).alloc (Nat.le_refl _) _
  exact ⟨_, rfl, ⟨86, _, rfl, Try.enters40, Try.class_either hl (HV.out.later hb) (Box.new _ _ _)⟩, hb⟩
#print axioms Try.class_oneOf
#print axioms Try.class_span
#print axioms Try.class_not
#print axioms Try.class_either
#print axioms Try.either_calls
end Go.Proofs
/- Looks at an instance: closures that tell whether a field fits (whole, each and their like), as contracts. Conditions: an instance that stands. -/
namespace Go.Proofs
open Go.RowKit Go.Shelf Go.Canon Go.Expr
attribute [local go_sem] Oper.semAt_some

/-- The closure g with what it holds tells q of the instance: in w and in whatever w grows into. -/
def FitC (x : Ins) (vn vm : Value) (g : Nat) (lb : Array Value) (q : Bool) (w : World) : Prop :=
  ∀ (W : World), Below w.heap.size w W → Calls Try.prog g (#[insV x vn vm] ++ lb) W fun e w' => e = .returned (.bool q) ∧ Below W.heap.size W w'
theorem FitC.later {x : Ins} {vn vm : Value} {g : Nat} {lb : Array Value} {q : Bool} {w W : World} (h : FitC x vn vm g lb q w) (hb : Below w.heap.size w W) : FitC x vn vm g lb q W :=
  fun W' hb' => h W' (hb.trans (hb'.mono hb.size))
def IsFit (x : Ins) (vn vm v : Value) (q : Bool) (w : World) : Prop :=
  ∃ (g : Nat) (lb : Array Value), v = .func (.func g) #[] lb ∧ (∀ args w, (callFunc g args).run Try.prog w = .ok (.enter g args) w) ∧ FitC x vn vm g lb q w
theorem IsFit.later {x : Ins} {vn vm v : Value} {q : Bool} {w W : World} (h : IsFit x vn vm v q w) (hb : Below w.heap.size w W) : IsFit x vn vm v q W := by
  obtain ⟨g, lb, h1, h2, h3⟩ := h
  exact ⟨g, lb, h1, h2, h3.later hb⟩
/-- The closure g with what it holds tells a field, and whether it fits. -/
def LookC (x : Ins) (vn vm : Value) (g : Nat) (lb : Array Value) (f : Int) (q : Bool) (w : World) : Prop :=
  ∀ (W : World), Below w.heap.size w W → Calls Try.prog g (#[insV x vn vm] ++ lb) W fun e w' => e = .returned (.tuple #[.int .i64 f, .bool q]) ∧ Below W.heap.size W w'
theorem LookC.later {x : Ins} {vn vm : Value} {g : Nat} {lb : Array Value} {f : Int} {q : Bool} {w W : World} (h : LookC x vn vm g lb f q w) (hb : Below w.heap.size w W) : LookC x vn vm g lb f q W :=
  fun W' hb' => h W' (hb.trans (hb'.mono hb.size))
def IsLook (x : Ins) (vn vm v : Value) (f : Int) (q : Bool) (w : World) : Prop :=
  ∃ (g : Nat) (lb : Array Value), v = .func (.func g) #[] lb ∧ (∀ args w, (callFunc g args).run Try.prog w = .ok (.enter g args) w) ∧ LookC x vn vm g lb f q w
theorem IsLook.later {x : Ins} {vn vm v : Value} {f : Int} {q : Bool} {w W : World} (h : IsLook x vn vm v f q w) (hb : Below w.heap.size w W) : IsLook x vn vm v f q W := by
  obtain ⟨g, lb, h1, h2, h3⟩ := h
  exact ⟨g, lb, h1, h2, h3.later hb⟩
/-- A node as a value. -/
def eNdV (d : Nd) : Value := .agg #[.int .i64 d.x, .int .i64 d.y, .int .i64 d.demand, .int .i64 d.ready, .int .i64 d.due, .int .i64 d.service, .int .i64 d.mate]
/-- The closure g with what it holds tells p of each node. -/
def NodeC (g : Nat) (lb : Array Value) (p : Nd → Bool) (w : World) : Prop :=
  ∀ (W : World) (d : Nd), Below w.heap.size w W → Calls Try.prog g (#[eNdV d] ++ lb) W fun e w' => e = .returned (.bool (p d)) ∧ Below W.heap.size W w'
theorem NodeC.later {g : Nat} {lb : Array Value} {p : Nd → Bool} {w W : World} (h : NodeC g lb p w) (hb : Below w.heap.size w W) : NodeC g lb p W :=
  fun W' d hb' => h W' d (hb.trans (hb'.mono hb.size))
def IsNode (v : Value) (p : Nd → Bool) (w : World) : Prop :=
  ∃ (g : Nat) (lb : Array Value), v = .func (.func g) #[] lb ∧ (∀ args w, (callFunc g args).run Try.prog w = .ok (.enter g args) w) ∧ NodeC g lb p w
theorem IsNode.later {v : Value} {p : Nd → Bool} {w W : World} (h : IsNode v p w) (hb : Below w.heap.size w W) : IsNode v p W := by
  obtain ⟨g, lb, h1, h2, h3⟩ := h
  exact ⟨g, lb, h1, h2, h3.later hb⟩

theorem Try.enters_whole1 : ∀ args w, (callFunc 55 args).run Try.prog w = .ok (.enter 55 args) w := enters_of Try.func55 (by kernel_rfl) rfl
theorem Try.enters_each1 : ∀ args w, (callFunc 59 args).run Try.prog w = .ok (.enter 59 args) w := enters_of Try.func59 (by kernel_rfl) rfl
theorem Try.enters_each11 : ∀ args w, (callFunc 61 args).run Try.prog w = .ok (.enter 61 args) w := enters_of Try.func61 (by kernel_rfl) rfl

theorem edrew_below {B : Nat} {a w : World} (h : Below B a w) : Below B a w.drew := ⟨h.os, h.tape, h.output, h.size, h.block⟩
/-- The two boxes of a look, the instance's, and the block that stands. -/
structure WhS (w : World) (x : Ins) (vn vm v : Value) (f : Int) (b b' : Nat) (W : World) : Prop where
  f : Box W b (.int .i64 f)
  v : Box W b' v
  box : InsBox W w.heap.size x vn vm 25
  below : Below w.heap.size w W
theorem WhS.next {w W W' : World} {x : Ins} {vn vm v : Value} {f : Int} {b b' : Nat} (h : WhS w x vn vm v f b b' W) (hb : Below W.heap.size W W') : WhS w x vn vm v f b b' W' :=
  ⟨h.f.later hb h.f.1, h.v.later hb h.v.1, h.box.next hb, h.below.trans (hb.mono h.below.size)⟩
theorem WhS.drew {w W : World} {x : Ins} {vn vm v : Value} {f : Int} {b b' : Nat} (h : WhS w x vn vm v f b b' W) : WhS w x vn vm v f b b' W.drew := h.next (edrew_below (Below.refl _ _))
theorem whS_S {w W : World} {x : Ins} {vn vm v : Value} {f : Int} {b b' : Nat} (h : WhS w x vn vm v f b b' W) :
    W.cell? ⟨b, 0, none⟩ = some (.int .i64 f) ∧ W.cell? ⟨b', 0, none⟩ = some v ∧ W.cell? ⟨w.heap.size, 0, none⟩ = some (.string x.name) ∧ W.cell? ⟨w.heap.size, 1, none⟩ = some (.int .i64 x.kind) ∧ W.cell? ⟨w.heap.size, 2, none⟩ = some (.int .i64 x.metric) ∧ W.cell? ⟨w.heap.size, 3, none⟩ = some (.int .i64 x.scale) ∧ W.cell? ⟨w.heap.size, 4, none⟩ = some (.int .i64 x.cap) ∧ W.cell? ⟨w.heap.size, 5, none⟩ = some (.int .i64 x.fleet) ∧ W.cell? ⟨w.heap.size, 6, none⟩ = some vn ∧ W.cell? ⟨w.heap.size, 7, none⟩ = some vm ∧ WhS w x vn vm v f b b' W :=
  ⟨h.f.2, h.v.2, h.box.c 0, h.box.c 1, h.box.c 2, h.box.c 3, h.box.c 4, h.box.c 5, h.box.c 6, h.box.c 7, h⟩

set_option maxRecDepth 100000 in
set_option maxHeartbeats 2000000 in
theorem Try.look_whole {x : Ins} {vn vm v : Value} {f : Int} {q : Bool} {b b' : Nat} {w : World} (hx : HasIns w vn vm x) (hv : IsFit x vn vm v q w) (hb : Box w b (.int .i64 f)) (hb' : Box w b' v) :
    LookC x vn vm 55 #[.pointer (some ⟨b, 0, none⟩), .pointer (some ⟨b', 0, none⟩)] f q w := by
  obtain ⟨g, lb, rfl, eg, hcl⟩ := hv
  intro W hW
  obtain ⟨an, cn, rfl, _⟩ := hx.nodes.dat
  obtain ⟨am, cm, rfl, _⟩ := hx.matrix.dat
  have HCL := Lib.hid (hcl.later hW)
  unfold FitC insV at HCL
  unfold insV
  have q0 : Below W.heap.size W (W.alloc (.cells #[.string x.name, .int .i64 x.kind, .int .i64 x.metric, .int .i64 x.scale, .int .i64 x.cap, .int .i64 x.fleet, .slice an x.nodes.length cn, .slice am x.matrix.length cm] 25)) := fbelow_box W _
  have hS := whS_S (w := W) (vn := .slice an x.nodes.length cn) (vm := .slice am x.matrix.length cm) ⟨(hb.later hW hb.1).later q0 (hb.later hW hb.1).1, (hb'.later hW hb'.1).later q0 (hb'.later hW hb'.1).1, InsBox.new _ _ _ _ _, q0⟩
  clear hcl hW hb hb' hx q0
  generalize x.nodes.length = L at *
  generalize x.matrix.length = M at *
  go_enter Try.func55, Try.ntmps55
  go_wp2
  go_region_held3 (fun V => V.cell? ⟨b, 0, none⟩ = some (.int .i64 f) ∧ V.cell? ⟨b', 0, none⟩ = some (.func (.func g) #[] lb) ∧ V.cell? ⟨W.heap.size, 0, none⟩ = some (.string x.name) ∧ V.cell? ⟨W.heap.size, 1, none⟩ = some (.int .i64 x.kind) ∧ V.cell? ⟨W.heap.size, 2, none⟩ = some (.int .i64 x.metric) ∧ V.cell? ⟨W.heap.size, 3, none⟩ = some (.int .i64 x.scale) ∧ V.cell? ⟨W.heap.size, 4, none⟩ = some (.int .i64 x.cap) ∧ V.cell? ⟨W.heap.size, 5, none⟩ = some (.int .i64 x.fleet) ∧ V.cell? ⟨W.heap.size, 6, none⟩ = some (.slice an L cn) ∧ V.cell? ⟨W.heap.size, 7, none⟩ = some (.slice am M cm) ∧ WhS W x (.slice an L cn) (.slice am M cm) (.func (.func g) #[] lb) f b b' V)
    ((go_split_ands; (first | exact whS_S (by assumption) | exact whS_S (WhS.drew (by assumption)) | exact whS_S (WhS.next (by assumption) (by assumption)))))
    (first | (go_at_fn g; refine (HCL.out _ (by go_split_ands; exact WhS.below (by assumption))).mono ?_; rintro e w' ⟨rfl, hb⟩))
  have T := (show _ ∧ _ ∧ _ ∧ _ ∧ _ ∧ _ ∧ _ ∧ _ ∧ _ ∧ _ ∧ WhS W x (.slice an L cn) (.slice am M cm) (.func (.func g) #[] lb) f b b' w' by assumption).2.2.2.2.2.2.2.2.2.2
  clear hS
  go_wp2
  exact bodyPost_ret (v := .tuple #[.int .i64 f, .bool q]) (by simp [results, Try.results55, go_sem]) rfl ⟨rfl, T.below⟩
theorem Try.whole_calls {x : Ins} {vn vm v : Value} {q : Bool} (f : Int) (w : World) (hx : HasIns w vn vm x) (hv : IsFit x vn vm v q w) :
    Calls Try.prog 31 #[.int .i64 f, v] w fun e w' => ∃ v', e = .returned v' ∧ IsLook x vn vm v' f q w' ∧ Below w.heap.size w w' := by
  have hv' := hv
  obtain ⟨g, lb, rfl, eg, _⟩ := hv'
  have k1 : Below w.heap.size w (w.alloc (.cells #[.int .i64 f] 3)) := fbelow_box _ _
  have k2 : Below (w.heap.size + 1) (w.alloc (.cells #[.int .i64 f] 3)) ((w.alloc (.cells #[.int .i64 f] 3)).alloc (.cells #[.func (.func g) #[] lb] 26)) := (Below.refl _ _).alloc (by simp) _
  have k3 : Below w.heap.size w ((w.alloc (.cells #[.int .i64 f] 3)).alloc (.cells #[.func (.func g) #[] lb] 26)) := k1.trans (k2.mono (Nat.le_succ _))
  have HK : Hid (LookC x vn vm 55 #[.pointer (some ⟨w.heap.size, 0, none⟩), .pointer (some ⟨w.heap.size + 1, 0, none⟩)] f q ((w.alloc (.cells #[.int .i64 f] 3)).alloc (.cells #[.func (.func g) #[] lb] 26))) := by
    refine Try.look_whole (hx.next k3) (hv.later k3) ((Box.new _ _ _).later k2 (by simp)) ?_
    have := Box.new (w.alloc (.cells #[.int .i64 f] 3)) (.func (.func g) #[] lb) 26
    rwa [World.size_alloc] at this
  have HB := Lib.hid k3
  clear hx hv k1 k2 k3
  go_enter Try.func31, Try.ntmps31
  go_wp2
  go_ret
  exact ⟨_, rfl, ⟨55, _, rfl, Try.enters_whole1, HK.out⟩, HB.out⟩
/-! Looks without captures. -/

theorem Try.fit_anyFleet (x : Ins) (vn vm : Value) (w : World) : FitC x vn vm 36 #[] (decide (x.fleet = 0)) w := by
  intro W hW
  clear hW
  unfold insV
  by_cases h : x.fleet = 0
  · have k : (x.fleet == (0 : Int)) = true := beq_iff_eq.2 h
    have E := Lib.hid (decide_eq_true h)
    clear h
    go_enter Try.func36, Try.ntmps36
    go_wp2
    go_ret
    exact ⟨cret_is E.out.symm, fbelow_box _ _⟩
  · have k : (x.fleet == (0 : Int)) = false := beq_false_of_ne h
    have E := Lib.hid (decide_eq_false h)
    clear h
    go_enter Try.func36, Try.ntmps36
    go_wp2
    go_ret
    exact ⟨cret_is E.out.symm, fbelow_box _ _⟩
theorem Try.enters_anyFleet : ∀ args w, (callFunc 36 args).run Try.prog w = .ok (.enter 36 args) w := enters_of Try.func36 (by kernel_rfl) rfl

theorem Try.fit_tenths (x : Ins) (vn vm : Value) (w : World) : FitC x vn vm 42 #[] (decide (x.metric = 6)) w := by
  intro W hW
  clear hW
  unfold insV
  by_cases h : x.metric = 6
  · have k : (x.metric == (6 : Int)) = true := beq_iff_eq.2 h
    have E := Lib.hid (decide_eq_true h)
    clear h
    go_enter Try.func42, Try.ntmps42
    go_wp2
    go_ret
    exact ⟨cret_is E.out.symm, fbelow_box _ _⟩
  · have k : (x.metric == (6 : Int)) = false := beq_false_of_ne h
    have E := Lib.hid (decide_eq_false h)
    clear h
    go_enter Try.func42, Try.ntmps42
    go_wp2
    go_ret
    exact ⟨cret_is E.out.symm, fbelow_box _ _⟩
theorem Try.enters_tenths : ∀ args w, (callFunc 42 args).run Try.prog w = .ok (.enter 42 args) w := enters_of Try.func42 (by kernel_rfl) rfl

theorem Try.fit_unscaled (x : Ins) (vn vm : Value) (w : World) : FitC x vn vm 45 #[] (decide (x.scale = 0)) w := by
  intro W hW
  clear hW
  unfold insV
  by_cases h : x.scale = 0
  · have k : (x.scale == (0 : Int)) = true := beq_iff_eq.2 h
    have E := Lib.hid (decide_eq_true h)
    clear h
    go_enter Try.func45, Try.ntmps45
    go_wp2
    go_ret
    exact ⟨cret_is E.out.symm, fbelow_box _ _⟩
  · have k : (x.scale == (0 : Int)) = false := beq_false_of_ne h
    have E := Lib.hid (decide_eq_false h)
    clear h
    go_enter Try.func45, Try.ntmps45
    go_wp2
    go_ret
    exact ⟨cret_is E.out.symm, fbelow_box _ _⟩
theorem Try.enters_unscaled : ∀ args w, (callFunc 45 args).run Try.prog w = .ok (.enter 45 args) w := enters_of Try.func45 (by kernel_rfl) rfl

theorem Try.fit_someFleet (x : Ins) (vn vm : Value) (w : World) : FitC x vn vm 43 #[] (decide (1 ≤ x.fleet)) w := by
  intro W hW
  clear hW
  unfold insV
  by_cases h : 1 ≤ x.fleet
  · have E := Lib.hid (decide_eq_true h)
    go_enter Try.func43, Try.ntmps43
    go_wp2
    go_ret
    exact ⟨cret_is (by simp [h]), fbelow_box _ _⟩
  · have E := Lib.hid (decide_eq_false h)
    go_enter Try.func43, Try.ntmps43
    go_wp2
    go_ret
    exact ⟨cret_is (by simp [h]), fbelow_box _ _⟩
theorem Try.enters_someFleet : ∀ args w, (callFunc 43 args).run Try.prog w = .ok (.enter 43 args) w := enters_of Try.func43 (by kernel_rfl) rfl

theorem Try.fit_noName (x : Ins) (vn vm : Value) (w : World) : FitC x vn vm 44 #[] (decide (x.name.toList = [108, 105, 108, 105, 109])) w := by
  intro W hW
  clear hW
  unfold insV
  go_enter Try.func44, Try.ntmps44
  go_wp2
  go_ret
  exact ⟨cret_is (by rw [Bool.eq_iff_iff]; simp), fbelow_box _ _⟩
theorem Try.enters_noName : ∀ args w, (callFunc 44 args).run Try.prog w = .ok (.enter 44 args) w := enters_of Try.func44 (by kernel_rfl) rfl

theorem Try.node_noService (w : World) : NodeC 40 #[] (fun d => decide (d.service = 0)) w := by
  intro W d hW
  clear hW
  unfold eNdV
  by_cases h : d.service = 0
  · have k : (d.service == (0 : Int)) = true := beq_iff_eq.2 h
    have E := Lib.hid (decide_eq_true h)
    clear h
    go_enter Try.func40, Try.ntmps40
    go_wp2
    go_ret
    exact ⟨cret_is E.out.symm, fbelow_box _ _⟩
  · have k : (d.service == (0 : Int)) = false := beq_false_of_ne h
    have E := Lib.hid (decide_eq_false h)
    clear h
    go_enter Try.func40, Try.ntmps40
    go_wp2
    go_ret
    exact ⟨cret_is E.out.symm, fbelow_box _ _⟩
theorem Try.enters_noService : ∀ args w, (callFunc 40 args).run Try.prog w = .ok (.enter 40 args) w := enters_of Try.func40 (by kernel_rfl) rfl

theorem Try.node_noMates (w : World) : NodeC 41 #[] (fun d => decide (d.mate = 0)) w := by
  intro W d hW
  clear hW
  unfold eNdV
  by_cases h : d.mate = 0
  · have k : (d.mate == (0 : Int)) = true := beq_iff_eq.2 h
    have E := Lib.hid (decide_eq_true h)
    clear h
    go_enter Try.func41, Try.ntmps41
    go_wp2
    go_ret
    exact ⟨cret_is E.out.symm, fbelow_box _ _⟩
  · have k : (d.mate == (0 : Int)) = false := beq_false_of_ne h
    have E := Lib.hid (decide_eq_false h)
    clear h
    go_enter Try.func41, Try.ntmps41
    go_wp2
    go_ret
    exact ⟨cret_is E.out.symm, fbelow_box _ _⟩
theorem Try.enters_noMates : ∀ args w, (callFunc 41 args).run Try.prog w = .ok (.enter 41 args) w := enters_of Try.func41 (by kernel_rfl) rfl

theorem Try.node_demands (w : World) : NodeC 38 #[] (fun d => decide (0 ≤ d.demand)) w := by
  intro W d hW
  clear hW
  unfold eNdV
  by_cases h : 0 ≤ d.demand
  · go_enter Try.func38, Try.ntmps38
    go_wp2
    go_ret
    exact ⟨cret_is (by simp [h]), fbelow_box _ _⟩
  · go_enter Try.func38, Try.ntmps38
    go_wp2
    go_ret
    exact ⟨cret_is (by simp [h]), fbelow_box _ _⟩
theorem Try.enters_demands : ∀ args w, (callFunc 38 args).run Try.prog w = .ok (.enter 38 args) w := enters_of Try.func38 (by kernel_rfl) rfl

theorem Try.node_noWindows (w : World) : NodeC 39 #[] (fun d => decide (d.ready = 0 ∧ d.due = 0)) w := by
  intro W d hW
  clear hW
  unfold eNdV
  by_cases h : d.ready = 0
  · have k : (d.ready == (0 : Int)) = true := beq_iff_eq.2 h
    by_cases h' : d.due = 0
    · have k' : (d.due == (0 : Int)) = true := beq_iff_eq.2 h'
      have E : Hid (decide (d.ready = 0 ∧ d.due = 0) = true) := decide_eq_true ⟨h, h'⟩
      clear h h'
      go_enter Try.func39, Try.ntmps39
      go_wp2
      go_ret
      exact ⟨cret_is E.out.symm, fbelow_box _ _⟩
    · have k' : (d.due == (0 : Int)) = false := beq_false_of_ne h'
      have E : Hid (decide (d.ready = 0 ∧ d.due = 0) = false) := decide_eq_false fun e => h' e.2
      clear h h'
      go_enter Try.func39, Try.ntmps39
      go_wp2
      go_ret
      exact ⟨cret_is E.out.symm, fbelow_box _ _⟩
  · have k : (d.ready == (0 : Int)) = false := beq_false_of_ne h
    have E : Hid (decide (d.ready = 0 ∧ d.due = 0) = false) := decide_eq_false fun e => h e.1
    clear h
    go_enter Try.func39, Try.ntmps39
    go_wp2
    go_ret
    exact ⟨cret_is E.out.symm, fbelow_box _ _⟩
theorem Try.enters_noWindows : ∀ args w, (callFunc 39 args).run Try.prog w = .ok (.enter 39 args) w := enters_of Try.func39 (by kernel_rfl) rfl
end Go.Proofs
