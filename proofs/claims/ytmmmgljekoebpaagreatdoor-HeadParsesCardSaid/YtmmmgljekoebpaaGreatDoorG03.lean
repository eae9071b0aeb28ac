/- Slices of words in this program, and entrepotlaw03.its and the document's own Same, as contracts. Conditions: lists of at most two million words. -/
import Derived.Test.YtmmmgljekoebpaaGreatDoorG02
import Derived.Laws.AppendOwn
import Derived.Lib.QuietBelow
import Derived.RangeFuncRecord
import Derived.Laws.OwnMore
import Derived.StillTailTactics
import Derived.RegionTactic
import Derived.ChangeAlike
import Derived.Deep.LoopGhost
namespace Go.Wds
def wordCells (ps : List (Nat × Nat)) : List Value := ps.flatMap fun p => [.int .i64 (p.1 : Int), .int .i64 (p.2 : Int)]
theorem wordCells_snoc (ps : List (Nat × Nat)) (a b : Nat) : wordCells (ps ++ [(a, b)]) = wordCells ps ++ [.int .i64 (a : Int), .int .i64 (b : Int)] := by simp [wordCells]
theorem take_get {α : Type} {l : List α} {k : Nat} {x : α} (h : l[k]? = some x) : l.take (k + 1) = l.take k ++ [x] := by
  obtain ⟨hk, rfl⟩ := List.getElem?_eq_some_iff.1 h
  rw [List.take_succ_eq_append_getElem hk]
theorem wordCells_get : ∀ {ps : List (Nat × Nat)} {i a b : Nat}, ps[i]? = some (a, b) →
    (wordCells ps)[i * 2]? = some (.int .i64 (a : Nat)) ∧ (wordCells ps)[i * 2 + 1]? = some (.int .i64 (b : Nat))
  | [], i, a, b, h => by simp at h
  | p :: ps, 0, a, b, h => by
    have e : p = (a, b) := by simpa using h
    subst e
    exact ⟨rfl, rfl⟩
  | p :: ps, i + 1, a, b, h => by
    have h' : ps[i]? = some (a, b) := by simpa using h
    have ih := wordCells_get h'
    have e : ∀ j, (wordCells (p :: ps))[(i + 1) * 2 + j]? = (wordCells ps)[i * 2 + j]? := fun j => by
      rw [show (i + 1) * 2 + j = (i * 2 + j) + 1 + 1 from by omega]; rfl
    exact ⟨(e 0).trans ih.1, (e 1).trans ih.2⟩
end Go.Wds
namespace Go
open Go.RowKit
theorem ownsRow_below {w w' : World} {base : Nat} {e : TypeId} {size : Nat} {v : Value} {k : Nat} {xs : List Value} {n₀ : Nat} (h : w.ownsRow base e size v k xs) (hb : Below n₀ w w') (hn : w.heap.size ≤ n₀) : w'.ownsRow base e size v k xs :=
  h.kept (hb.grownBy hn) (by cases v.ownBlock <;> simp)
theorem ownsRow_base {w : World} {base base' : Nat} {e : TypeId} {size : Nat} {v : Value} {k : Nat} {xs : List Value} (h : w.ownsRow base e size v k xs) (hb : base' ≤ base) : w.ownsRow base' e size v k xs := by
  refine ⟨h.1, h.2.imp id ?_⟩
  rintro ⟨g, cap, cur, h1, h2, h3⟩
  exact ⟨g, cap, cur, h1, Nat.le_trans hb h2, h3⟩
theorem grown_below {n₀ : Nat} {w wr w1 : World} {tmp : Obj} {v : Value} {e : TypeId} {size k : Nat} {xs : List Value} (hB : Below n₀ w wr) (hn : n₀ ≤ wr.heap.size) (hown : wr.ownsRow n₀ e size v k xs) (hgrow : (wr.alloc tmp).grownBy w1 v.ownBlock) : Below n₀ w w1 :=
  (hB.alloc hn tmp).grown hgrow (by simp; omega) (fun j e => (hown.lt j e).1)
end Go
namespace Go.Proofs
open Go.RowKit Go.Shelf Go.Wds Go.Sort

theorem Tryz.info62 : (Tryz.prog.info? 62).map (fun i => (i.zero, i.size, i.bytes)) = some (some (.agg #[.int .i64 0, .int .i64 0]), 2, 16) := by kernel_rfl
theorem cells_new (W : World) (c : Array Value) (t : TypeId) : ∀ (j : Nat) (u : Value), c.toList[j]? = some u → (W.alloc (.cells c t)).cell? ((⟨W.heap.size, 0, none⟩ : Addr).add j) = some u := by
  intro j u h
  have e := World.alloc_heap_new W (.cells c t)
  have hb : ((⟨W.heap.size, 0, none⟩ : Addr).add j) = ⟨W.heap.size, j, none⟩ := by
    unfold Addr.add
    split
    · rename_i h0; rw [h0]
    · simp
  rw [hb]
  unfold World.cell?
  simp only [e]
  simpa using h
theorem owns_empty2 (w : World) (e : TypeId) : (w.alloc (.cells #[] e)).ownsRow w.heap.size e 2 (.slice (some ⟨w.heap.size, 0, none⟩) 0 0) 0 [] :=
  ⟨rfl, .inr ⟨w.heap.size, 0, #[], rfl, Nat.le_refl _, World.alloc_heap_new w _, Nat.le_refl _, Nat.zero_le _, rfl, rfl⟩⟩

/-- v is a slice that holds the words ps in W. -/
def HasWords (W : World) (v : Value) (ps : List (Nat × Nat)) : Prop :=
  ∃ (ao : Option Addr) (cap : Nat), v = .slice ao ps.length cap ∧ (∀ (i a b : Nat), ps[i]? = some (a, b) → ∃ g, ao = some ⟨g, 0, none⟩ ∧ g < W.heap.size ∧
    W.cell? ⟨g, i * 2, none⟩ = some (.int .i64 (a : Nat)) ∧ W.cell? ⟨g, i * 2 + 1, none⟩ = some (.int .i64 (b : Nat))) ∧ ps.length ≤ cap
theorem hasWords_of_owns {W : World} {base : Nat} {e : TypeId} {v : Value} {ps : List (Nat × Nat)} (h : W.ownsRow base e 2 v ps.length (wordCells ps)) : HasWords W v ps := by
  rcases h.2 with ⟨rfl, h0⟩ | ⟨g, cap, cur, rfl, h1, h2, hnc, _⟩
  · refine ⟨none, 0, by rw [h0], fun i a b hi => ?_, by omega⟩
    have := (List.getElem?_eq_some_iff.1 hi).1
    omega
  · refine ⟨_, cap, rfl, fun i a b hi => ⟨g, rfl, (Array.getElem?_eq_some_iff.1 h2).1, ?_⟩, hnc⟩
    have hc := World.ownsRow.cells h (g := g) rfl
    have hl := wordCells_get hi
    have e : ∀ j, ((⟨g, 0, none⟩ : Addr).add j) = ⟨g, j, none⟩ := fun j => by
      unfold Addr.add
      split
      · rename_i h0; rw [h0]
      · simp
    have h3 := hc _ _ hl.1
    have h4 := hc _ _ hl.2
    rw [e] at h3 h4
    exact ⟨h3, h4⟩
theorem HasWords.below {W W' : World} {v : Value} {ps : List (Nat × Nat)} (h : HasWords W v ps) {n₀ : Nat} (hb : Below n₀ W W') (hn : W.heap.size ≤ n₀) : HasWords W' v ps := by
  obtain ⟨ao, cap, rfl, h, hc⟩ := h
  refine ⟨ao, cap, rfl, fun i a b hi => ?_, hc⟩
  obtain ⟨g, h1, h2, h3, h4⟩ := h i a b hi
  have := hb.size
  exact ⟨g, h1, by omega, (hb.cell (p := ⟨g, _, none⟩) (by simp; omega)).trans h3, (hb.cell (p := ⟨g, _, none⟩) (by simp; omega)).trans h4⟩
theorem HasWords.later {W W' : World} {v : Value} {ps : List (Nat × Nat)} (h : HasWords W v ps) (hb : Below W.heap.size W W') : HasWords W' v ps := h.below hb (Nat.le_refl _)
theorem HasWords.nil (W : World) : HasWords W (.slice none 0 0) [] := ⟨none, 0, rfl, fun i a b hi => by simp at hi, Nat.le_refl _⟩
theorem HasWords.at {W : World} {g : Nat} {n cap : Nat} {ps : List (Nat × Nat)} (h : HasWords W (.slice (some ⟨g, 0, none⟩) n cap) ps) {i a b : Nat} (hi : ps[i]? = some (a, b)) :
    g < W.heap.size ∧ W.cell? ⟨g, i * 2, none⟩ = some (.int .i64 (a : Nat)) ∧ W.cell? ⟨g, i * 2 + 1, none⟩ = some (.int .i64 (b : Nat)) := by
  obtain ⟨ao, cap', e, h, _⟩ := h
  obtain ⟨g', h1, h2, h3, h4⟩ := h i a b hi
  cases e
  cases h1
  exact ⟨h2, h3, h4⟩
theorem HasWords.split {W : World} {v : Value} {ps : List (Nat × Nat)} (h : HasWords W v ps) : (ps = [] ∧ ∃ ao cap, v = .slice ao 0 cap) ∨ (0 < ps.length ∧ ∃ g cap, v = .slice (some ⟨g, 0, none⟩) ps.length cap ∧ g < W.heap.size) := by
  obtain ⟨ao, cap, rfl, h, _⟩ := h
  cases ps with
  | nil => exact .inl ⟨rfl, ao, cap, rfl⟩
  | cons p ps =>
    obtain ⟨a, b⟩ := p
    obtain ⟨g, rfl, h1, _⟩ := h 0 a b rfl
    exact .inr ⟨by simp, g, cap, rfl, h1⟩


end Go.Proofs
/- words.Text, and the document's own places, Text and blank, of this program, as contracts. No conditions. -/
namespace Go.Wds
/-- The bytes of a part; none, if it is none. -/
def textI (s : ByteArray) (a b : Int) : ByteArray := if Go.Proofs.inB s.size a b = true then s.extract a.toNat b.toNat else ⟨#[]⟩
end Go.Wds
namespace Go.Proofs
open Go.RowKit Go.Shelf Go.Wds

theorem inB_nat {n a b : Nat} (hab : a ≤ b) (hbn : b ≤ n) : inB n (a : Int) (b : Int) = true := decide_eq_true ⟨by omega, by omega, by omega⟩
theorem inB_out {n : Nat} {a b : Int} (h : inB n a b = true) : ∃ x y : Nat, a = (x : Int) ∧ b = (y : Int) ∧ x ≤ y ∧ y ≤ n := by
  have h' := of_decide_eq_true h
  exact ⟨a.toNat, b.toNat, by omega, by omega, by omega, by omega⟩
theorem textI_nat {s : ByteArray} {a b : Nat} (hab : a ≤ b) (hbn : b ≤ s.size) : textI s (a : Int) (b : Int) = s.extract a b := by
  unfold textI; rw [if_pos (inB_nat hab hbn)]; rfl

set_option maxRecDepth 100000 in
theorem Tryz.places_calls (s : ByteArray) (a b : Int) (w : World) :
    Calls Tryz.prog 35 #[.string s, .int .i64 a, .int .i64 b] w fun e w' => e = .returned (.bool (inB s.size a b)) ∧ w' = w := by
  by_cases h1 : 0 ≤ a
  · have d1 : decide (0 ≤ a) = true := decide_eq_true h1
    by_cases h2 : a ≤ b
    · have d2 : decide (a ≤ b) = true := decide_eq_true h2
      by_cases h3 : b ≤ s.size
      · have d3 : decide (b ≤ (s.size : Int)) = true := decide_eq_true h3
        have H := Lib.hid (show inB s.size a b = true from decide_eq_true ⟨h1, h2, h3⟩)
        clear h1 h2 h3
        go_enter Tryz.func35, Tryz.ntmps35
        go_wp2
        go_ret
        rw [H.out]; exact ⟨rfl, rfl⟩
      · have d3 : decide (b ≤ (s.size : Int)) = false := decide_eq_false h3
        have H := Lib.hid (show inB s.size a b = false from decide_eq_false fun h => h3 h.2.2)
        clear h1 h2 h3
        go_enter Tryz.func35, Tryz.ntmps35
        go_wp2
        go_ret
        rw [H.out]; exact ⟨rfl, rfl⟩
    · have d2 : decide (a ≤ b) = false := decide_eq_false h2
      have H := Lib.hid (show inB s.size a b = false from decide_eq_false fun h => h2 h.2.1)
      clear h1 h2
      go_enter Tryz.func35, Tryz.ntmps35
      go_wp2
      go_ret
      rw [H.out]; exact ⟨rfl, rfl⟩
  · have d1 : decide (0 ≤ a) = false := decide_eq_false h1
    have H := Lib.hid (show inB s.size a b = false from decide_eq_false fun h => h1 h.1)
    clear h1
    go_enter Tryz.func35, Tryz.ntmps35
    go_wp2
    go_ret
    rw [H.out]; exact ⟨rfl, rfl⟩

set_option maxRecDepth 100000 in
theorem Tryz.Text_calls (s : ByteArray) (a b : Int) (w : World) :
    Calls Tryz.prog 32 #[.string s, .agg #[.int .i64 a, .int .i64 b]] w fun e w' => e = .returned (.string (textI s a b)) ∧ Below w.heap.size w w' := by
  cases h : inB s.size a b with
  | false =>
    have hc := Lib.hid fun w => Tryz.inside_calls s a b w
    rw [h] at hc
    have H := Lib.hid (show textI s a b = ⟨#[]⟩ by unfold textI; rw [h]; rfl)
    clear h
    go_enter Tryz.func32, Tryz.ntmps32
    go_wp2_with (go_at_call 49; (with_reducible refine (hc.out _).mono ?_); rintro e w1 ⟨rfl, rfl⟩)
    go_ret
    rw [H.out]
    exact ⟨rfl, (Below.refl _ _).alloc (Nat.le_refl _) _⟩
  | true =>
    obtain ⟨x, y, rfl, rfl, hxy, hy⟩ := inB_out h
    have hc := Lib.hid fun w => Tryz.inside_calls s (x : Int) (y : Int) w
    rw [h] at hc
    have H := Lib.hid (textI_nat (s := s) hxy hy)
    clear h
    go_enter Tryz.func32, Tryz.ntmps32
    go_wp2_with (go_at_call 49; (with_reducible refine (hc.out _).mono ?_); rintro e w1 ⟨rfl, rfl⟩)
    go_ret
    rw [H.out]
    exact ⟨rfl, (Below.refl _ _).alloc (Nat.le_refl _) _⟩
set_option maxRecDepth 100000 in
theorem Tryz.rText_calls (s : ByteArray) (a b : Int) (w : World) :
    Calls Tryz.prog 17 #[.string s, .agg #[.int .i64 a, .int .i64 b]] w fun e w' => e = .returned (.string (textI s a b)) ∧ Below w.heap.size w w' := by
  cases h : inB s.size a b with
  | false =>
    have hc := Lib.hid fun w => Tryz.places_calls s a b w
    rw [h] at hc
    have H := Lib.hid (show textI s a b = ⟨#[]⟩ by unfold textI; rw [h]; rfl)
    clear h
    go_enter Tryz.func17, Tryz.ntmps17
    go_wp2_with (go_at_call 35; (with_reducible refine (hc.out _).mono ?_); rintro e w1 ⟨rfl, rfl⟩)
    go_ret
    rw [H.out]
    exact ⟨rfl, (Below.refl _ _).alloc (Nat.le_refl _) _⟩
  | true =>
    obtain ⟨x, y, rfl, rfl, hxy, hy⟩ := inB_out h
    have hc := Lib.hid fun w => Tryz.places_calls s (x : Int) (y : Int) w
    rw [h] at hc
    have H := Lib.hid (textI_nat (s := s) hxy hy)
    clear h
    go_enter Tryz.func17, Tryz.ntmps17
    go_wp2_with (go_at_call 35; (with_reducible refine (hc.out _).mono ?_); rintro e w1 ⟨rfl, rfl⟩)
    go_ret
    rw [H.out]
    exact ⟨rfl, (Below.refl _ _).alloc (Nat.le_refl _) _⟩

set_option maxRecDepth 100000 in
theorem Tryz.blank_calls (c : UInt8) (w : World) :
    Calls Tryz.prog 57 #[.int .u8 (c.toNat : Int)] w fun e w' => e = .returned (.bool (blk c)) ∧ w' = w := by
  by_cases h1 : c = 32
  · subst h1
    go_enter Tryz.func57, Tryz.ntmps57
    go_wp2
    go_ret
    exact ⟨rfl, rfl⟩
  · by_cases h2 : c = 9
    · subst h2
      go_enter Tryz.func57, Tryz.ntmps57
      go_wp2
      go_ret
      exact ⟨rfl, rfl⟩
    · have d1 : ((c.toNat : Int) == 32) = false := by
        rw [beq_eq_false_iff_ne]
        intro e
        exact h1 (UInt8.toNat_inj.1 (by have e' : c.toNat = 32 := by omega
                                        exact e'))
      have d2 : ((c.toNat : Int) == 9) = false := by
        rw [beq_eq_false_iff_ne]
        intro e
        exact h2 (UInt8.toNat_inj.1 (by have e' : c.toNat = 9 := by omega
                                        exact e'))
      have H := Lib.hid (show blk c = false by unfold blk; simp [h1, h2])
      clear h1 h2
      go_enter Tryz.func57, Tryz.ntmps57
      go_wp2
      go_ret
      rw [H.out]; exact ⟨rfl, rfl⟩
#print axioms Tryz.Text_calls
#print axioms Tryz.rText_calls
#print axioms Tryz.blank_calls
end Go.Proofs
/- Plain facts on how words are told one by one; no program. -/
namespace Go.Wds
theorem ink_not (c : UInt8) : ink c = !blk c := rfl
/-- k is where a word of the part begins, or its end. -/
def Ready (l : List UInt8) (a b k : Nat) : Prop := k < b → (k = a ∨ ∀ x, l[k - 1]? = some x → blk x = true) ∧ ∀ x, l[k]? = some x → blk x = false
theorem fields_start {l : List UInt8} {a b : Nat} (hab : a ≤ b) : a ≤ seekL ink l a b ∧ seekL ink l a b ≤ b ∧ wordsL l a (seekL ink l a b) = [] ∧ Ready l a b (seekL ink l a b) := by
  have h1 := seek_ge ink l a b
  have h2 := seek_le (q := ink) (l := l) hab
  have hbl : ∀ j x, a ≤ j → j < seekL ink l a b → l[j]? = some x → blk x = true := fun j x h3 h4 h5 => by
    have := seek_none h3 h4 h5
    rw [ink_not] at this
    simpa using this
  refine ⟨h1, h2, ?_, fun hk => ⟨?_, fun x hx => ?_⟩⟩
  · rw [words_blank (Nat.le_refl a) h1 hbl, words_nil]
  · by_cases e : seekL ink l a b = a
    · exact .inl e
    · exact .inr fun x hx => hbl _ x (by omega) (by omega) hx
  · obtain ⟨c, hc, hq⟩ := seek_at hab hk
    rw [hc] at hx
    cases hx
    rw [ink_not] at hq
    simpa using hq
theorem fields_step {l : List UInt8} {a b k : Nat} (hak : a ≤ k) (hk : k < b) (hb : b ≤ l.length) (hr : Ready l a b k) :
    k < seekL blk l k b ∧ seekL blk l k b ≤ b ∧ seekL blk l k b ≤ seekL ink l (seekL blk l k b) b ∧ seekL ink l (seekL blk l k b) b ≤ b ∧
    wordsL l a (seekL ink l (seekL blk l k b) b) = wordsL l a k ++ [(k, seekL blk l k b)] ∧ Ready l a b (seekL ink l (seekL blk l k b) b) := by
  obtain ⟨r1, r2⟩ := hr hk
  have h1 := seek_ge blk l k b
  have h2 := seek_le (q := blk) (l := l) (Nat.le_of_lt hk)
  have hn : ∀ j x, k ≤ j → j < seekL blk l k b → l[j]? = some x → blk x = false := fun j x h3 h4 h5 => seek_none h3 h4 h5
  have hlt : k < seekL blk l k b := by
    rcases Nat.lt_or_ge k (seekL blk l k b) with h | h
    · exact h
    · have e : seekL blk l k b = k := by omega
      obtain ⟨c, hc, hq⟩ := seek_at (q := blk) (l := l) (Nat.le_of_lt hk) (by omega)
      rw [e] at hc
      rw [r2 c hc] at hq
      cases hq
  have hat : seekL blk l k b < b → ∃ c, l[seekL blk l k b]? = some c ∧ blk c = true := fun h => seek_at (Nat.le_of_lt hk) h
  generalize seekL blk l k b = e at *
  have h3 := seek_ge ink l e b
  have h4 := seek_le (q := ink) (l := l) h2
  have hbl : ∀ j x, e ≤ j → j < seekL ink l e b → l[j]? = some x → blk x = true := fun j x h5 h6 h7 => by
    have := seek_none h5 h6 h7
    rw [ink_not] at this
    simpa using this
  refine ⟨hlt, h2, h3, h4, ?_, fun hk' => ?_⟩
  · rw [words_blank (by omega) h3 hbl, words_word hak hlt (by omega) r1 hn]
  · obtain ⟨c, hc, hq⟩ := seek_at (q := ink) (l := l) h2 hk'
    refine ⟨.inr fun x hx => ?_, fun x hx => ?_⟩
    · by_cases h5 : seekL ink l e b = e
      · obtain ⟨c', hc', hq'⟩ := hat (by omega)
        rw [h5, hc'] at hc
        cases hc
        rw [ink_not, hq'] at hq
        cases hq
      · exact hbl _ x (by omega) (by omega) hx
    · rw [hc] at hx
      cases hx
      rw [ink_not] at hq
      simpa using hq
end Go.Wds
/- words.Fields of this program, as a contract. Conditions: a text of at most two million bytes. -/
namespace Go.Wds
def sBlanks : ByteArray := ⟨#[32, 9]⟩
theorem low_blanks : Low sBlanks := by unfold Low; decide
theorem flat_has {s : ByteArray} (h : Low s) : Flat (has s) := fun r hr => by rw [has_high h hr, has_high h (Nat.le_refl _)]
theorem flat_not {p : Nat → Bool} (h : Flat p) : Flat (fun x => !p x) := fun r hr => by show (!p r) = !p 128; rw [h r hr]
theorem of_blanks : ofB (has sBlanks) = blk := by
  funext c
  have h : ∀ n : Nat, has sBlanks n = (n == 32 || n == 9) := fun n => by
    show ((32 == n) || ((9 == n) || false)) = _
    rw [Bool.or_false, Bool.eq_iff_iff]
    simp only [Bool.or_eq_true, beq_iff_eq]
    omega
  unfold ofB blk
  rw [h, Bool.eq_iff_iff]
  simp only [Bool.or_eq_true, beq_iff_eq, ← UInt8.toNat_inj]
  rfl
theorem of_ink : ofB (fun x => !has sBlanks x) = ink := by
  funext c
  show (!ofB (has sBlanks) c) = !blk c
  rw [of_blanks]
/-- The words of a part of a text; none, if it is none. -/
def fieldsI (s : ByteArray) (a b : Int) : List (Nat × Nat) := if Go.Proofs.inB s.size a b = true then wordsL s.data.toList a.toNat b.toNat else []
theorem fieldsI_len (s : ByteArray) (a b : Int) : (fieldsI s a b).length ≤ s.size := by
  unfold fieldsI
  split
  · rename_i h
    have h' := of_decide_eq_true h
    have := words_len s.data.toList a.toNat b.toNat
    omega
  · simp
end Go.Wds
namespace Go.Proofs
open Go.RowKit Go.Shelf Go.Wds

theorem Tryz.blanks_calls (w : World) : Calls Tryz.prog 46 #[.string { data := #[32, 9] }] w fun e w' => ∃ v, e = .returned v ∧ IsClass v (has sBlanks) w' ∧ Below w.heap.size w w' := Tryz.oneOf_calls sBlanks w low_blanks
theorem Tryz.seekBlank {v : Value} (s : ByteArray) (a b : Nat) (w : World) (hab : a ≤ b) (hbs : b ≤ s.size) (hs : s.size ≤ 2000000) (hv : IsClass v (has sBlanks) w) :
    Calls Tryz.prog 50 #[.string s, .int .i64 (a : Int), .int .i64 (b : Int), v] w fun e w' => e = .returned (.int .i64 (seekL blk s.data.toList a b : Nat)) ∧ Below w.heap.size w w' := by
  have := Tryz.seek_calls s a b w hab hbs hs (flat_has low_blanks) hv
  rwa [of_blanks] at this
theorem Tryz.seekInk {v : Value} (s : ByteArray) (a b : Nat) (w : World) (hab : a ≤ b) (hbs : b ≤ s.size) (hs : s.size ≤ 2000000) (hv : IsClass v (fun x => !has sBlanks x) w) :
    Calls Tryz.prog 50 #[.string s, .int .i64 (a : Int), .int .i64 (b : Int), v] w fun e w' => e = .returned (.int .i64 (seekL ink s.data.toList a b : Nat)) ∧ Below w.heap.size w w' := by
  have := Tryz.seek_calls s a b w hab hbs hs (flat_not (flat_has low_blanks)) hv
  rwa [of_ink] at this

set_option maxRecDepth 100000 in
set_option maxHeartbeats 2000000 in
theorem Tryz.Fields_calls (s : ByteArray) (a b : Int) (w : World) (hs : s.size ≤ 2000000) :
    Calls Tryz.prog 71 #[.string s, .int .i64 a, .int .i64 b] w fun e w' => ∃ v, e = .returned v ∧ HasWords w' v (fieldsI s a b) ∧ Below w.heap.size w w' := by
  cases h : inB s.size a b with
  | false =>
    have hc := Lib.hid fun w => Tryz.inside_calls s a b w
    rw [h] at hc
    have H := Lib.hid (show fieldsI s a b = [] by unfold fieldsI; rw [h]; rfl)
    clear h
    go_enter Tryz.func71, Tryz.ntmps71
    go_wp2_with (go_at_call 49; (with_reducible refine (hc.out _).mono ?_); rintro e w1 ⟨rfl, rfl⟩)
    go_ret
    rw [H.out]
    exact ⟨_, rfl, HasWords.nil _, Below.refl _ _⟩
  | true =>
    obtain ⟨x, y, rfl, rfl, hxy, hy⟩ := inB_out h
    have hc := Lib.hid fun w => Tryz.inside_calls s (x : Int) (y : Int) w
    have H := Lib.hid (show fieldsI s (x : Int) (y : Int) = wordsL s.data.toList x y by unfold fieldsI; rw [if_pos h]; rfl)
    rw [h] at hc
    clear h
    obtain ⟨i0, hi, hz0, hz1, hz2⟩ := info_parts Tryz.info62
    have HI := Lib.hid hi
    have HL := Lib.hid (show s.data.toList.length = s.size by simp)
    clear hi
    obtain ⟨st1, st2, st3, st4⟩ := fields_start (l := s.data.toList) hxy
    have ST3 := Lib.hid st3
    have ST4 := Lib.hid st4
    clear st3 st4
    go_enter Tryz.func71, Tryz.ntmps71
    go_wp2_with (go_at_call 49; (with_reducible refine (hc.out _).mono ?_); rintro e w1 ⟨rfl, rfl⟩)
    refine (Tryz.blanks_calls _).mono ?_
    rintro e w2 ⟨vb, rfl, hvb, hb2⟩
    have HB := Lib.hid hvb
    clear hvb
    go_wp2_with (go_at_call 79; (with_reducible refine (Tryz.not_calls HB.out).mono ?_); rintro e w3 ⟨vi, rfl, hvi, hb3⟩)
    have HI2 := Lib.hid hvi
    clear hvi
    have B3 : Below w1.heap.size w1 w3 := hb2.trans (hb3.mono hb2.size)
    have HB3 := Lib.hid (HB.out.later hb3)
    clear HB hb2 hb3
    go_wp2_with (go_at_call 50; (with_reducible refine (Tryz.seekInk s x y w3 hxy hy hs HI2.out).mono ?_); rintro e w4 ⟨rfl, hb4⟩)
    have B4 : Below w1.heap.size w1 w4 := B3.trans (hb4.mono B3.size)
    have HB4 := Lib.hid (HB3.out.later hb4)
    have HI4 := Lib.hid (HI2.out.later hb4)
    clear HB3 HI2 B3 hb4
    go_loopw [9, 10] (fun v k wr => ∃ n : Nat, k = .int .i64 (n : Int) ∧ x ≤ n ∧ n ≤ y ∧ Ready s.data.toList x y n ∧ wr.ownsRow w4.heap.size 62 2 v (wordsL s.data.toList x n).length (wordCells (wordsL s.data.toList x n)) ∧ Below w4.heap.size w4 wr) (fun _ k _ => y - (intOf k).toNat)
    case atStart => exact ⟨_, rfl, st1, st2, ST4.out, by rw [ST3.out]; exact World.ownsRow_nil _ _ _ _, Below.refl _ _⟩
    case round =>
      obtain ⟨n, rfl, hxn, hny, hr, hown, hB⟩ := hrel
      by_cases hlt : n < y
      · obtain ⟨e1, e2, e3, e4, e5, e6⟩ := fields_step hxn hlt (by rw [HL.out]; exact hy) hr
        have hwl := words_len s.data.toList x n
        obtain ⟨m, hm⟩ : ∃ m, seekL blk s.data.toList n y = m := ⟨_, rfl⟩
        rw [hm] at e1 e2 e3 e4 e5 e6
        obtain ⟨o, ho⟩ : ∃ o, seekL ink s.data.toList m y = o := ⟨_, rfl⟩
        rw [ho] at e3 e4 e5 e6
        have C1 := Lib.hid (Tryz.seekBlank s n y wr (by omega) hy hs (HB4.out.later hB))
        have C2 := Lib.hid fun W (h : Below w4.heap.size w4 W) => Tryz.seekInk s m y W e2 hy hs (HI4.out.later h)
        rw [hm] at C1
        rw [ho] at C2
        have E5 := Lib.hid e5
        have E6 := Lib.hid e6
        have hB1 : w4.heap.size ≤ wr.heap.size := hB.size
        have hml : (wordsL s.data.toList x n).length + 1 ≤ maxLen := by unfold maxLen; omega
        have hml2 : ((wordsL s.data.toList x n).length + 1) * 16 ≤ 140737488355328 := by omega
        clear hm ho e5 e6 hr hwl
        go_wp2_with (fail)
        refine C1.out.mono ?_
        rintro e W1 ⟨rfl, hb1⟩
        have hown1 := ownsRow_below hown hb1 (Nat.le_refl _)
        have hB2 : Below w4.heap.size w4 W1 := hB.trans (hb1.mono hB1)
        have hB3 : w4.heap.size ≤ W1.heap.size := hB2.size
        clear hown hB hb1 C1
        go_wp2_with (at_builtin; refine wpList_append_own _ rfl _ _ 103 rfl w4.heap.size 62 i0 (.agg #[.int .i64 0, .int .i64 0]) 2 16 Tryz.underlying103 HI.out hz0 hz1 hz2 rfl (by decide) _ _ _ rfl (hown1.alloc _) ⟨W1.heap.size, 0, none⟩ 1 1 [.int .i64 (n : Nat), .int .i64 (m : Nat)] rfl rfl (cells_new W1 #[.int .i64 (n : Nat), .int .i64 (m : Nat)] 62) (by simp [Value.oneCell']) hml hml2 (by simp; omega) ?_; intro v' W2 hown' hgrow _)
        have hB4 := grown_below hB2 hB3 hown1 hgrow
        refine (C2.out _ hB4).mono ?_
        rintro e W3 ⟨rfl, hb3⟩
        have hown2 := ownsRow_below hown' hb3 (Nat.le_refl _)
        have hB5 : Below w4.heap.size w4 W3 := hB4.trans (hb3.mono hB4.size)
        clear hown' hgrow hown1 hB2 hb3 C2
        go_wp2
        go_roundw
        case rel => exact ⟨o, rfl, by omega, by omega, E6.out, by rw [E5.out, wordCells_snoc, List.length_append]; exact hown2, hB5⟩
        case measure => simp [intOf]; omega
      · have hny2 : n = y := by omega
        subst hny2
        have HO := Lib.hid (hasWords_of_owns hown)
        clear hown hr
        go_wp2
        go_ret
        rw [H.out]
        exact ⟨_, rfl, HO.out, B4.trans (hB.mono B4.size)⟩
#print axioms Tryz.Fields_calls
end Go.Proofs
/- Plain facts: what the words of a part are, told from its beginning; what a part is without blanks at its ends; no program. -/
namespace Go.Wds
/-- All bytes from a up to b are blanks. -/
def Blank (l : List UInt8) (a b : Nat) : Prop := ∀ j x, a ≤ j → j < b → l[j]? = some x → blk x = true
/-- No byte from a up to b is a blank. -/
def Ink (l : List UInt8) (a b : Nat) : Prop := ∀ j x, a ≤ j → j < b → l[j]? = some x → blk x = false
/-- ps are the words from a up to b. -/
def Runs (l : List UInt8) (b : Nat) : Nat → List (Nat × Nat) → Prop
  | a, [] => Blank l a b
  | a, (p, q) :: r => a ≤ p ∧ p < q ∧ q ≤ b ∧ Blank l a p ∧ Ink l p q ∧ (q < b → ∀ x, l[q]? = some x → blk x = true) ∧ Runs l b q r

theorem wordsL_succ {l : List UInt8} {a k : Nat} (h : a ≤ k) : wordsL l a (k + 1) = grow l a k (wordsL l a k) := by
  unfold wordsL
  rw [show k + 1 - a = (k - a) + 1 from by omega]
  show grow l a (a + (k - a)) _ = _
  rw [show a + (k - a) = k from by omega]
theorem words_last {l : List UInt8} {a k : Nat} (h : a < k) {c : UInt8} (hc : l[k - 1]? = some c) (hb : blk c = false) : ∃ pre q, wordsL l a k = pre ++ [(q, k)] := by
  obtain ⟨n, rfl⟩ : ∃ n, k = n + 1 := ⟨k - 1, by omega⟩
  rw [wordsL_succ (by omega)]
  rw [Nat.add_sub_cancel] at hc
  unfold grow
  rw [if_neg (by rw [hc]; simp [hb])]
  split
  · exact ⟨_, _, rfl⟩
  · exact ⟨_, _, rfl⟩

/-- Behind the first word, which ends at a blank, the words are those from there. -/
theorem words_cons {l : List UInt8} {a k e : Nat} (hak : a ≤ k) (hke : k < e) (h0 : wordsL l a e = [(k, e)]) : ∀ n, e + n ≤ l.length → (0 < n → ∀ x, l[e]? = some x → blk x = true) → wordsL l a (e + n) = (k, e) :: wordsL l e (e + n)
  | 0, _, _ => by rw [Nat.add_zero, h0, words_nil]
  | n + 1, hl, hb => by
    have ih := words_cons hak hke h0 n (by omega) (fun _ => hb (by omega))
    have hc : l[e + n]? = some l[e + n] := List.getElem?_eq_getElem (by omega)
    rw [show e + (n + 1) = (e + n) + 1 from by omega, wordsL_succ (a := a) (by omega), wordsL_succ (a := e) (by omega), ih]
    unfold grow
    by_cases h1 : blk l[e + n] = true
    · rw [if_pos (by rw [hc]; simpa using h1), if_pos (by rw [hc]; simpa using h1)]
    · have h1' : blk l[e + n] = false := by simpa using h1
      have hn : n ≠ 0 := fun h => by
        subst h
        have := hb (by omega) _ hc
        rw [h1'] at this; cases this
      have hd : l[e + n - 1]? = some l[e + n - 1] := List.getElem?_eq_getElem (by omega)
      have A : ¬ ((l[e + n]?.map blk).getD true = true) := by rw [hc]; simp [h1']
      rw [if_neg A, if_neg A]
      by_cases h2 : blk l[e + n - 1] = false
      · have B : (l[e + n - 1]?.map blk).getD true = false := by rw [hd]; simpa using h2
        rw [if_pos ⟨by omega, B⟩, if_pos ⟨by omega, B⟩]
        obtain ⟨pre, q, hpre⟩ := words_last (a := e) (k := e + n) (by omega) hd h2
        have C : ((k, e) :: (pre ++ [(q, e + n)])).getLast? = some (q, e + n) := by rw [← List.cons_append, List.getLast?_append]; rfl
        rw [hpre, C]
        simp [List.dropLast_cons_of_ne_nil]
      · have B : ¬ ((l[e + n - 1]?.map blk).getD true = false) := by rw [hd]; simpa using h2
        rw [if_neg (fun h => B h.2), if_neg (fun h => B h.2)]
        rfl

theorem runs_words {l : List UInt8} {b : Nat} (hb : b ≤ l.length) : ∀ n a, a ≤ b → b - a ≤ n → Runs l b a (wordsL l a b) := by
  intro n
  induction n with
  | zero =>
    intro a hab hn
    have e : a = b := by omega
    subst e
    rw [words_nil]
    exact fun j x h1 h2 => by omega
  | succ n ih =>
    intro a hab hn
    obtain ⟨h1, h2, h3, h4⟩ := fields_start (l := l) hab
    have hbl : Blank l a (seekL ink l a b) := fun j x h5 h6 h7 => by
      have := seek_none h5 h6 h7
      rw [ink_not] at this
      simpa using this
    generalize seekL ink l a b = k at *
    by_cases hk : k < b
    · obtain ⟨r1, r2⟩ := h4 hk
      have g1 := seek_le (q := blk) (l := l) (Nat.le_of_lt hk)
      have hn2 : Ink l k (seekL blk l k b) := fun j x h5 h6 h7 => seek_none h5 h6 h7
      have hat : seekL blk l k b < b → ∃ c, l[seekL blk l k b]? = some c ∧ blk c = true := fun h => seek_at (Nat.le_of_lt hk) h
      have g0 := (fields_step h1 hk hb h4).1
      generalize seekL blk l k b = e at *
      have hw : wordsL l a e = [(k, e)] := by rw [words_word h1 g0 (by omega) r1 hn2, h3]; rfl
      have hend : e < b → ∀ x, l[e]? = some x → blk x = true := fun h x hx => by
        obtain ⟨c, hc, hq⟩ := hat h
        rw [hc] at hx; cases hx; exact hq
      have := words_cons h1 g0 hw (b - e) (by omega) (fun h => hend (by omega))
      rw [show e + (b - e) = b from by omega] at this
      rw [this]
      exact ⟨h1, g0, g1, hbl, hn2, hend, ih e g1 (by omega)⟩
    · have e : k = b := by omega
      subst e
      rw [h3]
      exact hbl
theorem runs_of {l : List UInt8} {a b : Nat} (hab : a ≤ b) (hb : b ≤ l.length) : Runs l b a (wordsL l a b) := runs_words hb (b - a) a hab (Nat.le_refl _)

theorem at_len {l : List UInt8} {j : Nat} (h : j < l.length) : ∃ x, l[j]? = some x := ⟨_, List.getElem?_eq_getElem h⟩
theorem blank_ink {l : List UInt8} {a b a' b' j : Nat} (hl : j < l.length) (h : Blank l a b) (h' : Ink l a' b') (h1 : a ≤ j) (h2 : j < b) (h3 : a' ≤ j) (h4 : j < b') : False := by
  obtain ⟨x, hx⟩ := at_len hl
  have := h j x h1 h2 hx
  rw [h' j x h3 h4 hx] at this
  cases this
/-- There is one way to tell words. -/
theorem runs_eq {l : List UInt8} {b : Nat} (hb : b ≤ l.length) : ∀ {ps qs : List (Nat × Nat)} {a : Nat}, Runs l b a ps → Runs l b a qs → ps = qs
  | [], [], _, _, _ => rfl
  | [], (p, q) :: qs, a, h, h' => by
    obtain ⟨h1, h2, h3, _, h5, _⟩ := h'
    exact (blank_ink (j := p) (by omega) h h5 h1 (by omega) (by omega) h2).elim
  | (p, q) :: ps, [], a, h, h' => by
    obtain ⟨h1, h2, h3, _, h5, _⟩ := h
    exact (blank_ink (j := p) (by omega) h' h5 h1 (by omega) (by omega) h2).elim
  | (p, q) :: ps, (p', q') :: qs, a, h, h' => by
    obtain ⟨h1, h2, h3, h4, h5, h6, h7⟩ := h
    obtain ⟨g1, g2, g3, g4, g5, g6, g7⟩ := h'
    have e1 : p = p' := by
      rcases Nat.lt_trichotomy p p' with h | h | h
      · exact (blank_ink (j := p) (by omega) g4 h5 h1 h (by omega) h2).elim
      · exact h
      · exact (blank_ink (j := p') (by omega) h4 g5 g1 h (by omega) g2).elim
    subst e1
    have e2 : q = q' := by
      rcases Nat.lt_trichotomy q q' with h | h | h
      · obtain ⟨x, hx⟩ := at_len (l := l) (j := q) (by omega)
        have := h6 (by omega) x hx
        rw [g5 q x (by omega) h hx] at this
        cases this
      · exact h
      · obtain ⟨x, hx⟩ := at_len (l := l) (j := q') (by omega)
        have := g6 (by omega) x hx
        rw [h5 q' x (by omega) h hx] at this
        cases this
    subst e2
    rw [runs_eq hb h7 g7]

/-- F up to T is a without blanks at its ends; of blanks alone the end. -/
def IsTrim (l : List UInt8) (a b F T : Nat) : Prop := a ≤ F ∧ F ≤ T ∧ T ≤ b ∧ Blank l a F ∧ Blank l T b ∧ (F = T → F = b) ∧ (F < T → (∀ x, l[F]? = some x → blk x = false) ∧ ∀ x, l[T - 1]? = some x → blk x = false)
theorem trim_unique {l : List UInt8} {a b F T F' T' : Nat} (hb : b ≤ l.length) (h : IsTrim l a b F T) (h' : IsTrim l a b F' T') : F = F' ∧ T = T' := by
  obtain ⟨h1, h2, h3, h4, h5, h6, h7⟩ := h
  obtain ⟨g1, g2, g3, g4, g5, g6, g7⟩ := h'
  have key : ∀ {F T F' T' : Nat}, F ≤ T → T ≤ b → (F < T → (∀ x, l[F]? = some x → blk x = false) ∧ ∀ x, l[T - 1]? = some x → blk x = false) → a ≤ F → Blank l a F' → Blank l T' b → F < T → F' ≤ F ∧ T ≤ T' := by
    intro F T F' T' i1 i2 i3 i4 i5 i6 i7
    obtain ⟨j1, j2⟩ := i3 i7
    obtain ⟨x, hx⟩ := at_len (l := l) (j := F) (by omega)
    obtain ⟨y, hy⟩ := at_len (l := l) (j := T - 1) (by omega)
    refine ⟨Nat.le_of_not_lt fun h => ?_, Nat.le_of_not_lt fun h => ?_⟩
    · have := i5 F x i4 h hx
      rw [j1 x hx] at this; cases this
    · have := i6 (T - 1) y (by omega) (by omega) hy
      rw [j2 y hy] at this; cases this
  by_cases e : F < T
  · obtain ⟨k1, k2⟩ := key h2 h3 h7 h1 g4 g5 e
    by_cases e' : F' < T'
    · obtain ⟨k3, k4⟩ := key g2 g3 g7 g1 h4 h5 e'
      omega
    · have := g6 (by omega)
      omega
  · have i1 := h6 (by omega)
    by_cases e' : F' < T'
    · obtain ⟨k3, k4⟩ := key g2 g3 g7 g1 h4 h5 e'
      omega
    · have := g6 (by omega)
      omega
/-- Without blanks at its ends. -/
def trimW (b : Nat) (ps : List (Nat × Nat)) : Nat × Nat := match ps with
  | [] => (b, b)
  | p :: r => (p.1, ((p :: r).getLast (by simp)).2)
def trimL (l : List UInt8) (a b : Nat) : Nat × Nat := trimW b (wordsL l a b)
theorem runs_trim {l : List UInt8} {b : Nat} : ∀ {ps : List (Nat × Nat)} {a p q : Nat}, Runs l b a ((p, q) :: ps) → ∀ T, T = (((p, q) :: ps).getLast (by simp)).2 → p < T ∧ T ≤ b ∧ Blank l T b ∧ (∀ x, l[T - 1]? = some x → blk x = false)
  | [], a, p, q, h, T, hT => by
    obtain ⟨h1, h2, h3, h4, h5, h6, h7⟩ := h
    have e : T = q := hT
    subst e
    exact ⟨h2, h3, h7, fun x hx => h5 _ x (by omega) (by omega) hx⟩
  | (p', q') :: ps, a, p, q, h, T, hT => by
    obtain ⟨h1, h2, h3, h4, h5, h6, h7⟩ := h
    obtain ⟨g1, g2, g3, g4⟩ := runs_trim h7 T (by rw [hT]; simp)
    have := h7.1
    exact ⟨by omega, g2, g3, g4⟩
theorem is_trim {l : List UInt8} {a b : Nat} (hab : a ≤ b) (hb : b ≤ l.length) : IsTrim l a b (trimL l a b).1 (trimL l a b).2 := by
  have h := runs_of hab hb
  unfold trimL
  cases hw : wordsL l a b with
  | nil =>
    rw [hw] at h
    show IsTrim l a b b b
    exact ⟨hab, Nat.le_refl _, Nat.le_refl _, h, fun j x h1 h2 => by omega, fun _ => rfl, fun h => by omega⟩
  | cons pq r =>
    obtain ⟨p, q⟩ := pq
    rw [hw] at h
    obtain ⟨g1, g2, g3, g4⟩ := runs_trim h _ rfl
    obtain ⟨h1, h2, h3, h4, h5, h6, h7⟩ := h
    refine ⟨h1, Nat.le_of_lt g1, g2, h4, g3, fun e => ?_, fun _ => ⟨fun x hx => h5 p x (Nat.le_refl _) h2 hx, g4⟩⟩
    exact absurd e (Nat.ne_of_lt g1)
end Go.Wds
/- The document's own Fields of this program, as a contract. Conditions: a text of at most two million bytes. -/
namespace Go.Wds
theorem words_skip {l : List UInt8} {a k : Nat} (h : a ≤ k) {c : UInt8} (hc : l[k]? = some c) (hb : blk c = true) : wordsL l a (k + 1) = wordsL l a k := by
  rw [wordsL_succ h]; unfold grow; rw [if_pos (by rw [hc]; simpa using hb)]
theorem words_new {l : List UInt8} {a k : Nat} (h : a ≤ k) {c : UInt8} (hc : l[k]? = some c) (hb : blk c = false) (h0 : k = a ∨ ∃ d, l[k - 1]? = some d ∧ blk d = true) : wordsL l a (k + 1) = wordsL l a k ++ [(k, k + 1)] := by
  rw [wordsL_succ h]; unfold grow; rw [if_neg (by rw [hc]; simp [hb]), if_neg]
  rintro ⟨h1, h2⟩
  rcases h0 with rfl | ⟨d, hd, hd2⟩
  · omega
  · rw [hd] at h2; simp [hd2] at h2
theorem words_more {l : List UInt8} {a k q : Nat} {pre : List (Nat × Nat)} (h : a < k) {c d : UInt8} (hc : l[k]? = some c) (hb : blk c = false) (hd : l[k - 1]? = some d) (hd2 : blk d = false) (hp : wordsL l a k = pre ++ [(q, k)]) : wordsL l a (k + 1) = pre ++ [(q, k + 1)] := by
  rw [wordsL_succ (by omega)]; unfold grow; rw [if_neg (by rw [hc]; simp [hb]), if_pos ⟨h, by rw [hd]; simpa using hd2⟩, hp]
  simp
theorem wordCells_len (ps : List (Nat × Nat)) : (wordCells ps).length = ps.length * 2 := by
  induction ps with
  | nil => rfl
  | cons p ps ih => simp only [wordCells, List.flatMap_cons, List.length_append, List.length_cons, List.length_nil] at *; omega
theorem wordCells_set (pre : List (Nat × Nat)) (q k j : Nat) : (wordCells (pre ++ [(q, k)])).set (pre.length * 2 + 1) (.int .i64 (j : Nat)) = wordCells (pre ++ [(q, j)]) := by
  rw [wordCells_snoc, wordCells_snoc, List.set_append_right _ _ (by rw [wordCells_len]; omega), wordCells_len, show pre.length * 2 + 1 - pre.length * 2 = 1 from by omega]
  rfl
end Go.Wds
namespace Go.Proofs
open Go.RowKit Go.Shelf Go.Wds

end Go.Proofs
/- words.trim of this program, and the document's own trimmed, as contracts. Conditions: a text of at most two million bytes; a part of it. -/
namespace Go.Wds
theorem trimL_nil {l : List UInt8} {a b : Nat} (h : wordsL l a b = []) : trimL l a b = (b, b) := by unfold trimL; rw [h]; rfl
theorem trimL_some {l : List UInt8} {a b : Nat} (h : 0 < (wordsL l a b).length) : ∃ q p, (wordsL l a b)[0]? = some ((trimL l a b).1, q) ∧ (wordsL l a b)[(wordsL l a b).length - 1]? = some (p, (trimL l a b).2) := by
  unfold trimL
  cases hw : wordsL l a b with
  | nil => rw [hw] at h; simp at h
  | cons x r =>
    refine ⟨x.2, ((x :: r).getLast (by simp)).1, rfl, ?_⟩
    have := List.getLast?_eq_getElem? (l := x :: r)
    rw [← this, List.getLast?_eq_some_getLast (by simp)]
    rfl
theorem fieldsI_nat {s : ByteArray} {a b : Nat} (hab : a ≤ b) (hb : b ≤ s.size) : fieldsI s (a : Int) (b : Int) = wordsL s.data.toList a b := by
  unfold fieldsI; rw [if_pos (Go.Proofs.inB_nat hab hb)]; rfl
end Go.Wds
namespace Go.Proofs
open Go.RowKit Go.Shelf Go.Wds

/-- A block of two cells of its own. -/
theorem pair_own {w w1 : World} {x y : Value} {t : TypeId} (hb : Below (w.alloc (.cells #[x, y] t)).heap.size (w.alloc (.cells #[x, y] t)) w1) :
    w1.cell? ⟨w.heap.size, 0, none⟩ = some x ∧ w1.cell? ⟨w.heap.size, 1, none⟩ = some y ∧ w1.frozen? ⟨w.heap.size, 0, none⟩ = false ∧ w1.frozen? ⟨w.heap.size, 1, none⟩ = false ∧ w.heap.size < w1.heap.size := by
  have hs := hb.size
  simp only [show (w.alloc (.cells #[x, y] t)).heap.size = w.heap.size + 1 from by simp] at hb hs
  refine ⟨(hb.cell (p := ⟨w.heap.size, 0, none⟩) (by simp)).trans (by simp), (hb.cell (p := ⟨w.heap.size, 1, none⟩) (by simp)).trans (by simp), (hb.frozen (p := ⟨w.heap.size, 0, none⟩) (by simp)).trans (by unfold World.frozen?; simp only [World.alloc_heap_new]; rfl), (hb.frozen (p := ⟨w.heap.size, 1, none⟩) (by simp)).trans (by unfold World.frozen?; simp only [World.alloc_heap_new]; rfl), by omega⟩

set_option maxRecDepth 100000 in
set_option maxHeartbeats 1000000 in
theorem Tryz.trim_calls (s : ByteArray) (a b : Nat) (w : World) (hab : a ≤ b) (hb : b ≤ s.size) (hs : s.size ≤ 2000000) :
    Calls Tryz.prog 51 #[.string s, .int .i64 (a : Int), .int .i64 (b : Int)] w fun e w' => e = .returned (.agg #[.int .i64 ((trimL s.data.toList a b).1 : Nat), .int .i64 ((trimL s.data.toList a b).2 : Nat)]) ∧ Below w.heap.size w w' := by
  have hmx : Tryz.prog.follows .mixedOrders = true := by kernel_rfl
  have hc := Lib.hid fun W => Tryz.Fields_calls s (a : Int) (b : Int) W hs
  rw [fieldsI_nat hab hb] at hc
  have h0 := fun h => trimL_nil (l := s.data.toList) (a := a) (b := b) h
  have h1 := fun h => trimL_some (l := s.data.toList) (a := a) (b := b) h
  have hlen := words_len s.data.toList a b
  obtain ⟨⟨F, T⟩, hFT⟩ : ∃ FT, trimL s.data.toList a b = FT := ⟨_, rfl⟩
  rw [hFT] at h0 h1 ⊢
  obtain ⟨ps, hps⟩ : ∃ ps, wordsL s.data.toList a b = ps := ⟨_, rfl⟩
  rw [hps] at hc h0 h1 hlen
  have H0 := Lib.hid h0
  have H1 := Lib.hid h1
  clear h0 h1 hFT hps
  go_enter Tryz.func51, Tryz.ntmps51
  go_wp2_with (fail)
  refine (hc.out _).mono ?_
  rintro e w1 ⟨v, rfl, hv, hb1⟩
  obtain ⟨r0, r1, f0, f1, hz⟩ := pair_own hb1
  have hB : Below w.heap.size w w1 := ((Below.refl _ _).alloc (Nat.le_refl _) _).trans (hb1.mono (by simp))
  clear hb1
  rcases hv.split with ⟨hn, ao, cap, rfl⟩ | ⟨hpos, g, cap, rfl, hg⟩
  · have e0 := H0.out hn
    simp only [Prod.mk.injEq] at e0
    have E0 := Lib.hid e0
    clear hv hn e0 H0 H1
    go_wp2
    refine bodyPost_ret (v := .agg #[.int .i64 (b : Nat), .int .i64 (b : Nat)]) (by simp [results, Tryz.results51, go_sem, r0, r1]) rfl ⟨by rw [E0.out.1, E0.out.2], ?_⟩
    exact (hB.setCell (by simp) _).setCell (by simp) _
  · obtain ⟨q, p, g0, g1⟩ := H1.out hpos
    obtain ⟨_, x0, _⟩ := hv.at g0
    obtain ⟨_, _, x1⟩ := hv.at g1
    obtain ⟨n, hn⟩ : ∃ n, ps.length = n + 1 := ⟨ps.length - 1, by omega⟩
    rw [hn] at x1 ⊢
    rw [Nat.add_sub_cancel] at x1
    have hn2 : n ≤ 2000000 := by omega
    clear hv H0 H1 g0 g1 hn hlen hpos
    have w1' : IntKind.i64.wrap (n : Int) = (n : Int) := IntWalk.i64_in _ (by omega)
    have i1 : (n : Int) < (n : Int) + 1 := by omega
    have i2 : (0 : Int) < (n : Int) + 1 := by omega
    go_wp2
    go_still_tail 12, (by kernel_rfl)
    change wpList _ _ _ _ _ w1.drew
    obtain ⟨V, hV⟩ : ∃ V, V = w1.drew := ⟨_, rfl⟩
    rw [← hV]
    have hB5 : Below w.heap.size w V := by rw [hV]; exact hB.drew
    replace r0 : V.cell? ⟨w.heap.size, 0, none⟩ = some (.int .i64 0) := by rw [hV]; exact r0
    replace r1 : V.cell? ⟨w.heap.size, 1, none⟩ = some (.int .i64 0) := by rw [hV]; exact r1
    replace f0 : V.frozen? ⟨w.heap.size, 0, none⟩ = false := by rw [hV]; exact f0
    replace f1 : V.frozen? ⟨w.heap.size, 1, none⟩ = false := by rw [hV]; exact f1
    clear hV hB w1' i1 i2 x0 x1
    go_wp2
    refine bodyPost_ret (v := .agg #[.int .i64 (F : Nat), .int .i64 (T : Nat)]) (by simp [results, Tryz.results51, go_sem, r0, r1]) rfl ⟨rfl, ?_⟩
    exact (hB5.setCell (by simp) _).setCell (by simp) _
#print axioms Tryz.trim_calls
end Go.Proofs
/- words.all, words.fits, words.Plain, words.Name, and words.either at three and four classes, of this program, as contracts. Conditions: a text of at most two million bytes. -/
namespace Go.Wds
theorem all_seek (q : UInt8 → Bool) (l : List UInt8) : decide (seekL (fun c => !q c) l 0 l.length = l.length) = l.all q := by
  rw [Bool.eq_iff_iff, decide_eq_true_iff, List.all_eq_true]
  constructor
  · intro h x hx
    obtain ⟨i, hi⟩ := List.mem_iff_getElem?.1 hx
    have hil : i < l.length := (List.getElem?_eq_some_iff.1 hi).1
    have := seek_none (q := fun c => !q c) (l := l) (a := 0) (b := l.length) (Nat.zero_le i) (by omega) hi
    simpa using this
  · intro h
    refine seek_eq (Nat.zero_le _) (Nat.le_refl _) (fun j c _ _ hc => ?_) (fun h => by omega)
    have := h c (List.mem_of_getElem? hc)
    simp [this]
/-- All bytes are of a class. -/
def allL (q : UInt8 → Bool) (l : List UInt8) : Bool := l.all q
/-- 1 to 40 bytes, all of a class. -/
def fitL (q : UInt8 → Bool) (l : List UInt8) : Bool := decide (1 ≤ l.length) && decide (l.length ≤ 40) && allL q l
end Go.Wds
namespace Go.Proofs
open Go.RowKit Go.Shelf Go.Wds

set_option maxRecDepth 100000 in
theorem Tryz.all_calls {v : Value} {p : Nat → Bool} (s : ByteArray) (w : World) (hs : s.size ≤ 2000000) (hp : Flat p) (hv : IsClass v p w) :
    Calls Tryz.prog 62 #[.string s, v] w fun e w' => e = .returned (.bool (allL (ofB p) s.data.toList)) ∧ Below w.heap.size w w' := by
  have hl : s.data.toList.length = s.size := by simp
  have hall : _ = allL (ofB p) s.data.toList := all_seek (ofB p) s.data.toList
  rw [hl] at hall
  have hk : seekL (fun c => !ofB p c) s.data.toList 0 s.size ≤ s.size := seek_le (Nat.zero_le _)
  have hc := Lib.hid fun (u : Value) (W : World) (hu : IsClass u (fun x => !p x) W) => Tryz.seek_calls s 0 s.size W (Nat.zero_le _) (Nat.le_refl _) hs (fun r hr => by show (!p r) = !p 128; rw [hp r hr]) hu
  have hn := Lib.hid fun W (hu : IsClass v p W) => Tryz.not_calls hu
  have HV := Lib.hid hv
  obtain ⟨g, lb, rfl, _⟩ := hv
  clear hl hp
  obtain ⟨K, hK⟩ : ∃ K, seekL (ofB fun x => !p x) s.data.toList 0 s.size = K := ⟨_, rfl⟩
  have hK2 : seekL (fun c => !ofB p c) s.data.toList 0 s.size = K := hK
  rw [hK] at hc
  rw [hK2] at hall hk
  clear hK hK2
  by_cases hks : K = s.size
  · rw [decide_eq_true hks] at hall
    have HA := Lib.hid hall
    have d : (K == s.size) = true := by rw [beq_iff_eq]; exact hks
    have d2 : ((K : Int) == (s.size : Int)) = true := by rw [beq_iff_eq]; omega
    clear hall hks
    go_enter Tryz.func62, Tryz.ntmps62
    go_wp2_with (fail)
    refine (hn.out _ HV.out).mono ?_
    rintro e w1 ⟨u, rfl, hu, hb1⟩
    have HU := Lib.hid hu
    clear hu
    go_wp2_with (fail)
    refine (hc.out u w1 HU.out).mono ?_
    rintro e w2 ⟨rfl, hb2⟩
    go_wp2
    go_ret
    rw [← HA.out]
    exact ⟨rfl, hb1.trans (hb2.mono hb1.size)⟩
  · rw [decide_eq_false hks] at hall
    have HA := Lib.hid hall
    have d : (K == s.size) = false := by rw [beq_eq_false_iff_ne]; exact hks
    have d2 : ((K : Int) == (s.size : Int)) = false := by rw [beq_eq_false_iff_ne]; omega
    clear hall hks
    go_enter Tryz.func62, Tryz.ntmps62
    go_wp2_with (fail)
    refine (hn.out _ HV.out).mono ?_
    rintro e w1 ⟨u, rfl, hu, hb1⟩
    have HU := Lib.hid hu
    clear hu
    go_wp2_with (fail)
    refine (hc.out u w1 HU.out).mono ?_
    rintro e w2 ⟨rfl, hb2⟩
    go_wp2
    go_ret
    rw [← HA.out]
    exact ⟨rfl, hb1.trans (hb2.mono hb1.size)⟩

set_option maxRecDepth 100000 in
theorem Tryz.fits_calls {v : Value} {p : Nat → Bool} (s : ByteArray) (w : World) (hs : s.size ≤ 2000000) (hp : Flat p) (hv : IsClass v p w) :
    Calls Tryz.prog 43 #[.string s, v] w fun e w' => e = .returned (.bool (fitL (ofB p) s.data.toList)) ∧ Below w.heap.size w w' := by
  have hl : s.data.toList.length = s.size := by simp
  have hc := Lib.hid (Tryz.all_calls s w hs hp hv)
  have hf : fitL (ofB p) s.data.toList = (decide (1 ≤ s.size) && decide (s.size ≤ 40) && allL (ofB p) s.data.toList) := by unfold fitL; rw [hl]
  obtain ⟨g, lb, rfl, _⟩ := hv
  clear hl hp
  by_cases h1 : 1 ≤ s.size
  · have d1 : decide (1 ≤ (s.size : Int)) = true := decide_eq_true (by omega)
    rw [decide_eq_true h1] at hf
    by_cases h2 : s.size ≤ 40
    · have d2 : decide ((s.size : Int) ≤ 40) = true := decide_eq_true (by omega)
      rw [decide_eq_true h2, Bool.true_and, Bool.true_and] at hf
      have HF := Lib.hid hf
      clear hf h1 h2
      go_enter Tryz.func43, Tryz.ntmps43
      go_wp2_with (go_at_call 62; (with_reducible refine hc.out.mono ?_); rintro e w1 ⟨rfl, hb1⟩)
      go_ret
      rw [HF.out]
      exact ⟨rfl, hb1⟩
    · have d2 : decide ((s.size : Int) ≤ 40) = false := decide_eq_false (by omega)
      rw [decide_eq_false h2, Bool.and_false, Bool.false_and] at hf
      have HF := Lib.hid hf
      clear hf h1 h2
      go_enter Tryz.func43, Tryz.ntmps43
      go_wp2
      go_ret
      rw [HF.out]
      exact ⟨rfl, Below.refl _ _⟩
  · have d1 : decide (1 ≤ (s.size : Int)) = false := decide_eq_false (by omega)
    rw [decide_eq_false h1, Bool.false_and, Bool.false_and] at hf
    have HF := Lib.hid hf
    clear hf h1
    go_enter Tryz.func43, Tryz.ntmps43
    go_wp2
    go_ret
    rw [HF.out]
    exact ⟨rfl, Below.refl _ _⟩

theorem cells_of (W : World) (c : Array Value) (t : TypeId) (j : Nat) (u : Value) (h : c[j]? = some u) : (W.alloc (.cells c t)).cell? ⟨W.heap.size, j, none⟩ = some u := by
  unfold World.cell?
  simp only [World.alloc_heap_new]
  simpa using h
theorem Tryz.either3 {v1 v2 v3 : Value} {p1 p2 p3 : Nat → Bool} {w : World} (h1 : IsClass v1 p1 w) (h2 : IsClass v2 p2 w) (h3 : IsClass v3 p3 w) :
    Calls Tryz.prog 44 #[.slice (some ⟨w.heap.size, 0, none⟩) 3 3] (w.alloc (.cells #[v1, v2, v3] 81)) fun e w' => ∃ v', e = .returned v' ∧ IsClass v' (anyOf [p1, p2, p3]) w' ∧ Below w.heap.size w w' := by
  have hb : Below w.heap.size w (w.alloc (.cells #[v1, v2, v3] 81)) := (Below.refl _ _).alloc (Nat.le_refl _) _
  have hv : Hold (w.alloc (.cells #[v1, v2, v3] 81)) w.heap.size [p1, p2, p3] := by
    refine ⟨by simp, fun i p hp => ?_⟩
    match i, hp with
    | 0, hp => cases hp; exact ⟨v1, cells_of _ _ _ 0 _ rfl, h1.later hb⟩
    | 1, hp => cases hp; exact ⟨v2, cells_of _ _ _ 1 _ rfl, h2.later hb⟩
    | 2, hp => cases hp; exact ⟨v3, cells_of _ _ _ 2 _ rfl, h3.later hb⟩
  refine (Tryz.either_calls (cap := 3) (by simp) hv).mono ?_
  rintro e w' ⟨v', rfl, h4, h5⟩
  exact ⟨v', rfl, h4, hb.trans (h5.mono (by simp))⟩
theorem Tryz.either4 {v1 v2 v3 v4 : Value} {p1 p2 p3 p4 : Nat → Bool} {w : World} (h1 : IsClass v1 p1 w) (h2 : IsClass v2 p2 w) (h3 : IsClass v3 p3 w) (h4 : IsClass v4 p4 w) :
    Calls Tryz.prog 44 #[.slice (some ⟨w.heap.size, 0, none⟩) 4 4] (w.alloc (.cells #[v1, v2, v3, v4] 81)) fun e w' => ∃ v', e = .returned v' ∧ IsClass v' (anyOf [p1, p2, p3, p4]) w' ∧ Below w.heap.size w w' := by
  have hb : Below w.heap.size w (w.alloc (.cells #[v1, v2, v3, v4] 81)) := (Below.refl _ _).alloc (Nat.le_refl _) _
  have hv : Hold (w.alloc (.cells #[v1, v2, v3, v4] 81)) w.heap.size [p1, p2, p3, p4] := by
    refine ⟨by simp, fun i p hp => ?_⟩
    match i, hp with
    | 0, hp => cases hp; exact ⟨v1, cells_of _ _ _ 0 _ rfl, h1.later hb⟩
    | 1, hp => cases hp; exact ⟨v2, cells_of _ _ _ 1 _ rfl, h2.later hb⟩
    | 2, hp => cases hp; exact ⟨v3, cells_of _ _ _ 2 _ rfl, h3.later hb⟩
    | 3, hp => cases hp; exact ⟨v4, cells_of _ _ _ 3 _ rfl, h4.later hb⟩
  refine (Tryz.either_calls (cap := 4) (by simp) hv).mono ?_
  rintro e w' ⟨v', rfl, h5, h6⟩
  exact ⟨v', rfl, h5, hb.trans (h6.mono (by simp))⟩
#print axioms Tryz.all_calls
#print axioms Tryz.fits_calls
#print axioms Tryz.either4
end Go.Proofs
/- words.Name and words.Plain of this program, and the document's own, as contracts. Conditions: a text of at most two million bytes. -/
namespace Go.Wds
open Go.Proofs
def sMarks : ByteArray := ⟨#[46, 95, 45]⟩
theorem low_marks : Low sMarks := by unfold Low; decide
theorem flat_between {a b : Nat} (hb : b < 128) : Flat (between a b) := fun r hr => by
  unfold between
  rw [show decide (r ≤ b) = false from decide_eq_false (by omega), show decide (128 ≤ b) = false from decide_eq_false (by omega)]; simp
theorem flat_has2 {s : ByteArray} (h : Low s) : Flat (has s) := fun r hr => by rw [has_high h hr, has_high h (Nat.le_refl _)]
theorem flat_any : ∀ {ps : List (Nat → Bool)}, (∀ p ∈ ps, Flat p) → Flat (anyOf ps)
  | [], _ => fun _ _ => rfl
  | p :: ps, h => fun r hr => by
    show (p r || anyOf ps r) = (p 128 || anyOf ps 128)
    rw [h p (by simp) r hr, flat_any (fun q hq => h q (by simp [hq])) r hr]
def nameP : Nat → Bool := anyOf [between 65 90, between 97 122, between 48 57, has sMarks]
theorem flat_name : Flat nameP := flat_any (by
  intro p hp
  simp only [List.mem_cons, List.not_mem_nil, or_false] at hp
  rcases hp with rfl | rfl | rfl | rfl
  · exact flat_between (by decide)
  · exact flat_between (by decide)
  · exact flat_between (by decide)
  · exact flat_has2 low_marks)
theorem nameP_eq (n : Nat) : nameP n = decide ((65 ≤ n ∧ n ≤ 90) ∨ (97 ≤ n ∧ n ≤ 122) ∨ (48 ≤ n ∧ n ≤ 57) ∨ n = 46 ∨ n = 95 ∨ n = 45) := by
  show ((decide (65 ≤ n) && decide (n ≤ 90)) || ((decide (97 ≤ n) && decide (n ≤ 122)) || ((decide (48 ≤ n) && decide (n ≤ 57)) || (((46 == n) || ((95 == n) || ((45 == n) || false))) || false)))) = _
  rw [Bool.eq_iff_iff]
  simp only [Bool.or_eq_true, Bool.and_eq_true, decide_eq_true_iff, beq_iff_eq, Bool.false_eq_true, or_false]
  omega
/-- May a text be a name? -/
def nameL (l : List UInt8) : Bool := fitL (ofB nameP) l
/-- Are all bytes of a text 32 to 126? -/
def plainL (l : List UInt8) : Bool := allL (ofB (between 32 126)) l
theorem plainP_eq (n : Nat) : between 32 126 n = decide (32 ≤ n ∧ n ≤ 126) := by
  unfold between; rw [Bool.decide_and]
theorem allL_step {q : UInt8 → Bool} {l : List UInt8} {k : Nat} {c : UInt8} (hc : l[k]? = some c) : allL q (l.drop k) = (q c && allL q (l.drop (k + 1))) := by
  obtain ⟨hk, rfl⟩ := List.getElem?_eq_some_iff.1 hc
  unfold allL
  rw [List.drop_eq_getElem_cons hk, List.all_cons]
theorem allL_end (q : UInt8 → Bool) (l : List UInt8) : allL q (l.drop l.length) = true := by unfold allL; rw [List.drop_length]; rfl
end Go.Wds
namespace Go.Proofs
open Go.RowKit Go.Shelf Go.Wds

theorem Tryz.spanAZ (w : World) : Calls Tryz.prog 45 #[.int .i32 65, .int .i32 90] w fun e w' => ∃ v, e = .returned v ∧ IsClass v (between 65 90) w' ∧ Below w.heap.size w w' := Tryz.span_calls 65 90 w
theorem Tryz.spanaz (w : World) : Calls Tryz.prog 45 #[.int .i32 97, .int .i32 122] w fun e w' => ∃ v, e = .returned v ∧ IsClass v (between 97 122) w' ∧ Below w.heap.size w w' := Tryz.span_calls 97 122 w
theorem Tryz.span09 (w : World) : Calls Tryz.prog 45 #[.int .i32 48, .int .i32 57] w fun e w' => ∃ v, e = .returned v ∧ IsClass v (between 48 57) w' ∧ Below w.heap.size w w' := Tryz.span_calls 48 57 w
theorem Tryz.spanSigns (w : World) : Calls Tryz.prog 45 #[.int .i32 32, .int .i32 126] w fun e w' => ∃ v, e = .returned v ∧ IsClass v (between 32 126) w' ∧ Below w.heap.size w w' := Tryz.span_calls 32 126 w
theorem Tryz.oneMarks (w : World) : Calls Tryz.prog 46 #[.string { data := #[46, 95, 45] }] w fun e w' => ∃ v, e = .returned v ∧ IsClass v (has sMarks) w' ∧ Below w.heap.size w w' := Tryz.oneOf_calls sMarks w low_marks


set_option maxRecDepth 100000 in
theorem Tryz.Name_calls (s : ByteArray) (w : World) (hs : s.size ≤ 2000000) :
    Calls Tryz.prog 23 #[.string s] w fun e w' => e = .returned (.bool (nameL s.data.toList)) ∧ Below w.heap.size w w' := by
  have hc := Lib.hid fun v W (hv : IsClass v nameP W) => Tryz.fits_calls s W hs flat_name hv
  go_enter Tryz.func23, Tryz.ntmps23
  go_wp2_with (fail)
  refine (Tryz.spanAZ _).mono ?_
  rintro e w1 ⟨v1, rfl, hv, hb1⟩
  have H1 := Lib.hid hv
  obtain ⟨g1, l1, rfl, _⟩ := hv
  go_wp2_with (fail)
  refine (Tryz.spanaz _).mono ?_
  rintro e w2 ⟨v2, rfl, hv, hb2⟩
  have H2 := Lib.hid hv
  obtain ⟨g2, l2, rfl, _⟩ := hv
  go_wp2_with (fail)
  refine (Tryz.span09 _).mono ?_
  rintro e w3 ⟨v3, rfl, hv, hb3⟩
  have H3 := Lib.hid hv
  obtain ⟨g3, l3, rfl, _⟩ := hv
  go_wp2_with (fail)
  refine (Tryz.oneMarks _).mono ?_
  rintro e w4 ⟨v4, rfl, hv, hb4⟩
  have H4 := Lib.hid hv
  obtain ⟨g4, l4, rfl, _⟩ := hv
  go_wp2_with (fail)
  refine (Tryz.either4 (H1.out.later ((hb2.trans (hb3.mono hb2.size)).trans (hb4.mono (hb2.trans (hb3.mono hb2.size)).size))) (H2.out.later (hb3.trans (hb4.mono hb3.size))) (H3.out.later hb4) H4.out).mono ?_
  rintro e w5 ⟨v5, rfl, hv, hb5⟩
  have H5 := Lib.hid hv
  clear hv
  have B := hb1.trans ((hb2.trans ((hb3.trans ((hb4.trans (hb5.mono hb4.size)).mono hb3.size)).mono hb2.size)).mono hb1.size)
  clear hb1 hb2 hb3 hb4 hb5 H1 H2 H3 H4
  go_wp2_with (fail)
  refine (hc.out _ _ H5.out).mono ?_
  rintro e w6 ⟨rfl, hb6⟩
  go_wp2
  go_ret
  exact ⟨rfl, B.trans (hb6.mono B.size)⟩


set_option maxRecDepth 100000 in
set_option maxHeartbeats 2000000 in
theorem Tryz.rName_calls (s : ByteArray) (w : World) (hs : s.size ≤ 9223372036854775807) :
    Calls Tryz.prog 37 #[.string s] w fun e w' => e = .returned (.bool (nameL s.data.toList)) ∧ w' = w := by
  have HL := Lib.hid (show s.data.toList.length = s.size by simp)
  have hN : nameL s.data.toList = (decide (1 ≤ s.size) && decide (s.size ≤ 40) && allL (ofB nameP) s.data.toList) := by unfold nameL fitL; rw [HL.out]
  obtain ⟨q, hq⟩ : ∃ q, ofB nameP = q := ⟨_, rfl⟩
  have HQ := Lib.hid hq
  rw [hq] at hN
  have HN := Lib.hid hN
  clear hq hN
  go_enter Tryz.func37, Tryz.ntmps37
  go_wp2
  go_loop [3] (fun i => ∃ k : Nat, i = .int .i64 (k : Int) ∧ k ≤ s.size ∧ Hid (allL q s.data.toList = allL q (s.data.toList.drop k))) (fun i => s.size - (intOf i).toNat)
  case atStart => exact ⟨0, rfl, Nat.zero_le _, Lib.hid rfl⟩
  case round =>
    obtain ⟨k, rfl, hk, HA⟩ := hrel
    by_cases hlt : k < s.size
    · have hst := allL_step (q := q) (list_get s k hlt)
      have hqc : q (s[k]'hlt) = nameP (s[k]'hlt).toNat := by rw [← HQ.out]; rfl
      rw [nameP_eq] at hqc
      have hst2 := HA.out.trans hst
      rw [hqc] at hst2
      clear hst hqc
      have hparts : ((s[k]'hlt).toNat = 45 ∨ (s[k]'hlt).toNat = 46 ∨ (48 ≤ (s[k]'hlt).toNat ∧ (s[k]'hlt).toNat ≤ 57) ∨ (65 ≤ (s[k]'hlt).toNat ∧ (s[k]'hlt).toNat ≤ 90) ∨ (s[k]'hlt).toNat = 95 ∨ (97 ≤ (s[k]'hlt).toNat ∧ (s[k]'hlt).toNat ≤ 122)) ∨
          ((s[k]'hlt).toNat < 45 ∨ (s[k]'hlt).toNat = 47 ∨ (58 ≤ (s[k]'hlt).toNat ∧ (s[k]'hlt).toNat ≤ 64) ∨ (91 ≤ (s[k]'hlt).toNat ∧ (s[k]'hlt).toNat ≤ 94) ∨ (s[k]'hlt).toNat = 96 ∨ 123 ≤ (s[k]'hlt).toNat) := by omega
      rcases hparts with hp | hp
      · rcases hp with hp | hp | hp | hp | hp | hp
        all_goals
          rw [show decide ((65 ≤ (s[k]'hlt).toNat ∧ (s[k]'hlt).toNat ≤ 90) ∨ (97 ≤ (s[k]'hlt).toNat ∧ (s[k]'hlt).toNat ≤ 122) ∨ (48 ≤ (s[k]'hlt).toNat ∧ (s[k]'hlt).toNat ≤ 57) ∨ (s[k]'hlt).toNat = 46 ∨ (s[k]'hlt).toNat = 95 ∨ (s[k]'hlt).toNat = 45) = true from decide_eq_true (by omega), Bool.true_and] at hst2
          have HS := Lib.hid hst2
          clear hst2
          first | have d1 : decide (((s[k]'hlt).toNat : Int) < 65) = true := decide_eq_true (by omega) | have d1 : decide (((s[k]'hlt).toNat : Int) < 65) = false := decide_eq_false (by omega)
          first | have d2 : decide ((90 : Int) < ((s[k]'hlt).toNat : Int)) = true := decide_eq_true (by omega) | have d2 : decide ((90 : Int) < ((s[k]'hlt).toNat : Int)) = false := decide_eq_false (by omega)
          first | have d3 : decide (((s[k]'hlt).toNat : Int) < 97) = true := decide_eq_true (by omega) | have d3 : decide (((s[k]'hlt).toNat : Int) < 97) = false := decide_eq_false (by omega)
          first | have d4 : decide ((122 : Int) < ((s[k]'hlt).toNat : Int)) = true := decide_eq_true (by omega) | have d4 : decide ((122 : Int) < ((s[k]'hlt).toNat : Int)) = false := decide_eq_false (by omega)
          first | have d5 : decide (((s[k]'hlt).toNat : Int) < 48) = true := decide_eq_true (by omega) | have d5 : decide (((s[k]'hlt).toNat : Int) < 48) = false := decide_eq_false (by omega)
          first | have d6 : decide ((57 : Int) < ((s[k]'hlt).toNat : Int)) = true := decide_eq_true (by omega) | have d6 : decide ((57 : Int) < ((s[k]'hlt).toNat : Int)) = false := decide_eq_false (by omega)
          first | have d7 : (((s[k]'hlt).toNat : Int) != 46) = true := bne_iff_ne.2 (by omega) | have d7 : (((s[k]'hlt).toNat : Int) != 46) = false := bne_eq_false_iff_eq.2 (by omega)
          first | have d8 : (((s[k]'hlt).toNat : Int) != 95) = true := bne_iff_ne.2 (by omega) | have d8 : (((s[k]'hlt).toNat : Int) != 95) = false := bne_eq_false_iff_eq.2 (by omega)
          first | have d9 : (((s[k]'hlt).toNat : Int) != 45) = true := bne_iff_ne.2 (by omega) | have d9 : (((s[k]'hlt).toNat : Int) != 45) = false := bne_eq_false_iff_eq.2 (by omega)
          clear hp
          go_wp2
          go_round
          case rel => exact ⟨k + 1, by go_num, by omega, HS⟩
          case measure => simp [intOf]; omega
      · rcases hp with hp | hp | hp | hp | hp | hp
        all_goals
          rw [show decide ((65 ≤ (s[k]'hlt).toNat ∧ (s[k]'hlt).toNat ≤ 90) ∨ (97 ≤ (s[k]'hlt).toNat ∧ (s[k]'hlt).toNat ≤ 122) ∨ (48 ≤ (s[k]'hlt).toNat ∧ (s[k]'hlt).toNat ≤ 57) ∨ (s[k]'hlt).toNat = 46 ∨ (s[k]'hlt).toNat = 95 ∨ (s[k]'hlt).toNat = 45) = false from decide_eq_false (by omega), Bool.false_and] at hst2
          have HS := Lib.hid hst2
          clear hst2
          first | have d1 : decide (((s[k]'hlt).toNat : Int) < 65) = true := decide_eq_true (by omega) | have d1 : decide (((s[k]'hlt).toNat : Int) < 65) = false := decide_eq_false (by omega)
          first | have d2 : decide ((90 : Int) < ((s[k]'hlt).toNat : Int)) = true := decide_eq_true (by omega) | have d2 : decide ((90 : Int) < ((s[k]'hlt).toNat : Int)) = false := decide_eq_false (by omega)
          first | have d3 : decide (((s[k]'hlt).toNat : Int) < 97) = true := decide_eq_true (by omega) | have d3 : decide (((s[k]'hlt).toNat : Int) < 97) = false := decide_eq_false (by omega)
          first | have d4 : decide ((122 : Int) < ((s[k]'hlt).toNat : Int)) = true := decide_eq_true (by omega) | have d4 : decide ((122 : Int) < ((s[k]'hlt).toNat : Int)) = false := decide_eq_false (by omega)
          first | have d5 : decide (((s[k]'hlt).toNat : Int) < 48) = true := decide_eq_true (by omega) | have d5 : decide (((s[k]'hlt).toNat : Int) < 48) = false := decide_eq_false (by omega)
          first | have d6 : decide ((57 : Int) < ((s[k]'hlt).toNat : Int)) = true := decide_eq_true (by omega) | have d6 : decide ((57 : Int) < ((s[k]'hlt).toNat : Int)) = false := decide_eq_false (by omega)
          first | have d7 : (((s[k]'hlt).toNat : Int) != 46) = true := bne_iff_ne.2 (by omega) | have d7 : (((s[k]'hlt).toNat : Int) != 46) = false := bne_eq_false_iff_eq.2 (by omega)
          first | have d8 : (((s[k]'hlt).toNat : Int) != 95) = true := bne_iff_ne.2 (by omega) | have d8 : (((s[k]'hlt).toNat : Int) != 95) = false := bne_eq_false_iff_eq.2 (by omega)
          first | have d9 : (((s[k]'hlt).toNat : Int) != 45) = true := bne_iff_ne.2 (by omega) | have d9 : (((s[k]'hlt).toNat : Int) != 45) = false := bne_eq_false_iff_eq.2 (by omega)
          clear hp
          go_wp2
          go_ret
          rw [HN.out, HS.out, Bool.and_false]
          exact ⟨rfl, rfl⟩
    · have hkk : k = s.size := by omega
      subst hkk
      have HS := Lib.hid (HA.out.trans (show allL q (s.data.toList.drop s.size) = true by rw [← HL.out]; exact allL_end _ _))
      by_cases h1 : 1 ≤ s.size
      · have d1 : decide (1 ≤ (s.size : Int)) = true := decide_eq_true (by omega)
        have HN1 := Lib.hid (decide_eq_true h1)
        by_cases h2 : s.size ≤ 40
        · have d2 : decide ((s.size : Int) ≤ 40) = true := decide_eq_true (by omega)
          have HN2 := Lib.hid (decide_eq_true h2)
          clear h1 h2
          go_wp2
          go_ret
          rw [HN.out, HS.out, HN1.out, HN2.out]
          exact ⟨rfl, rfl⟩
        · have d2 : decide ((s.size : Int) ≤ 40) = false := decide_eq_false (by omega)
          have HN2 := Lib.hid (decide_eq_false h2)
          clear h1 h2
          go_wp2
          go_ret
          rw [HN.out, HS.out, HN1.out, HN2.out]
          exact ⟨rfl, rfl⟩
      · have d1 : decide (1 ≤ (s.size : Int)) = false := decide_eq_false (by omega)
        have HN1 := Lib.hid (decide_eq_false h1)
        clear h1
        go_wp2
        go_ret
        rw [HN.out, HS.out, HN1.out, Bool.false_and, Bool.false_and]
        exact ⟨rfl, rfl⟩
#print axioms Tryz.Name_calls
#print axioms Tryz.rName_calls
end Go.Proofs
/- words.Key of this program, as a contract. Conditions: a text of at most two million bytes. -/
namespace Go.Wds
open Go.Proofs
def sColon : ByteArray := ⟨#[58]⟩
def sUnder : ByteArray := ⟨#[95]⟩
theorem low_colon : Low sColon := by unfold Low; decide
theorem low_under : Low sUnder := by unfold Low; decide
def colB (c : UInt8) : Bool := c == 58
theorem of_colon : ofB (has sColon) = colB := by
  funext c
  show ((58 == c.toNat) || false) = (c == 58)
  rw [Bool.or_false, Bool.eq_iff_iff, beq_iff_eq, beq_iff_eq, ← UInt8.toNat_inj]
  exact ⟨fun h => h.symm, fun h => h.symm⟩
def keyP : Nat → Bool := anyOf [between 65 90, between 48 57, has sUnder]
theorem flat_key : Flat keyP := flat_any (by
  intro p hp
  simp only [List.mem_cons, List.not_mem_nil, or_false] at hp
  rcases hp with rfl | rfl | rfl
  · exact flat_between (by decide)
  · exact flat_between (by decide)
  · exact flat_has2 low_under)
theorem keyP_eq (n : Nat) : keyP n = decide ((65 ≤ n ∧ n ≤ 90) ∨ (48 ≤ n ∧ n ≤ 57) ∨ n = 95) := by
  show ((decide (65 ≤ n) && decide (n ≤ 90)) || ((decide (48 ≤ n) && decide (n ≤ 57)) || (((95 == n) || false) || false))) = _
  rw [Bool.eq_iff_iff]
  simp only [Bool.or_eq_true, Bool.and_eq_true, decide_eq_true_iff, beq_iff_eq, Bool.false_eq_true, or_false]
  omega
/-- What Key tells, as a value. -/
def keyV (k : ByteArray) (i j : Nat) (b : Bool) : Value := .tuple #[.string k, .agg #[.int .i64 (i : Int), .int .i64 (j : Int)], .bool b]
/-- The key of the part, without blanks. -/
def keyPart (s : ByteArray) (a b : Nat) : ByteArray := s.extract (trimL s.data.toList a (seekL colB s.data.toList a b)).1 (trimL s.data.toList a (seekL colB s.data.toList a b)).2
def isKey (k : ByteArray) : Bool := fitL (ofB keyP) k.data.toList
/-- What Key tells of any part: what there is none of is none. -/
inductive KeyIs (s : ByteArray) : Int → Int → ByteArray → Nat → Nat → Bool → Prop
  | out (a b : Int) : Go.Proofs.inB s.size a b = false → KeyIs s a b ⟨#[]⟩ 0 0 false
  | none (a b : Nat) : a ≤ b → b ≤ s.size → isKey (keyPart s a b) = false → KeyIs s a b ⟨#[]⟩ 0 0 false
  | alone (a b : Nat) : a ≤ b → b ≤ s.size → isKey (keyPart s a b) = true → seekL colB s.data.toList a b = b → KeyIs s a b (keyPart s a b) b b true
  | both (a b : Nat) : a ≤ b → b ≤ s.size → isKey (keyPart s a b) = true → seekL colB s.data.toList a b < b →
      KeyIs s a b (keyPart s a b) (trimL s.data.toList (seekL colB s.data.toList a b + 1) b).1 (trimL s.data.toList (seekL colB s.data.toList a b + 1) b).2 true
theorem key_is (s : ByteArray) (a b : Int) : ∃ k i j t, KeyIs s a b k i j t := by
  cases h : Go.Proofs.inB s.size a b with
  | false => exact ⟨_, _, _, _, .out a b h⟩
  | true =>
    obtain ⟨x, y, rfl, rfl, hxy, hy⟩ := inB_out h
    cases hk : isKey (keyPart s x y) with
    | false => exact ⟨_, _, _, _, .none x y hxy hy hk⟩
    | true =>
      rcases Nat.lt_or_ge (seekL colB s.data.toList x y) y with h1 | h1
      · exact ⟨_, _, _, _, .both x y hxy hy hk h1⟩
      · exact ⟨_, _, _, _, .alone x y hxy hy hk (Nat.le_antisymm (seek_le hxy) h1)⟩
end Go.Wds
namespace Go.Proofs
open Go.RowKit Go.Shelf Go.Wds

theorem Tryz.oneColon (w : World) : Calls Tryz.prog 46 #[.string { data := #[58] }] w fun e w' => ∃ v, e = .returned v ∧ IsClass v (has sColon) w' ∧ Below w.heap.size w w' := Tryz.oneOf_calls sColon w low_colon
theorem Tryz.oneUnder (w : World) : Calls Tryz.prog 46 #[.string { data := #[95] }] w fun e w' => ∃ v, e = .returned v ∧ IsClass v (has sUnder) w' ∧ Below w.heap.size w w' := Tryz.oneOf_calls sUnder w low_under
theorem Tryz.seekColon {v : Value} (s : ByteArray) (a b : Nat) (w : World) (hab : a ≤ b) (hbs : b ≤ s.size) (hs : s.size ≤ 2000000) (hv : IsClass v (has sColon) w) :
    Calls Tryz.prog 50 #[.string s, .int .i64 (a : Int), .int .i64 (b : Int), v] w fun e w' => e = .returned (.int .i64 (seekL colB s.data.toList a b : Nat)) ∧ Below w.heap.size w w' := by
  have := Tryz.seek_calls s a b w hab hbs hs (flat_has2 low_colon) hv
  rwa [of_colon] at this
theorem Tryz.textN (s : ByteArray) (a b : Nat) (w : World) (hab : a ≤ b) (hb : b ≤ s.size) :
    Calls Tryz.prog 32 #[.string s, .agg #[.int .i64 (a : Int), .int .i64 (b : Int)]] w fun e w' => e = .returned (.string (s.extract a b)) ∧ Below w.heap.size w w' := by
  have := Tryz.Text_calls s (a : Int) (b : Int) w
  rwa [textI_nat hab hb] at this

set_option maxRecDepth 100000 in
theorem Tryz.Key_out (s : ByteArray) (a b : Int) (w : World) (h : inB s.size a b = false) :
    Calls Tryz.prog 28 #[.string s, .int .i64 a, .int .i64 b] w fun e w' => e = .returned (keyV ⟨#[]⟩ 0 0 false) ∧ Below w.heap.size w w' := by
  have hc := Lib.hid fun w => Tryz.inside_calls s a b w
  rw [h] at hc
  obtain ⟨r0, r1, f0, f1, hz⟩ := pair_own (Below.refl _ (w.alloc (.cells #[.int .i64 0, .int .i64 0] 62)))
  clear h
  go_enter Tryz.func28, Tryz.ntmps28
  go_wp2_with (go_at_call 49; (with_reducible refine (hc.out _).mono ?_); rintro e w1 ⟨rfl, hw1⟩; subst hw1)
  refine bodyPost_ret (v := keyV ⟨#[]⟩ 0 0 false) (by simp [results, Tryz.results28, go_sem, keyV]) rfl ⟨rfl, ?_⟩
  exact (Below.refl _ _).alloc (Nat.le_refl _) _

set_option maxRecDepth 100000 in
set_option maxHeartbeats 2000000 in
theorem Tryz.Key_none (s : ByteArray) (a b : Nat) (w : World) (hs : s.size ≤ 2000000) (hab : a ≤ b) (hb : b ≤ s.size) (hik : isKey (keyPart s a b) = false) :
    Calls Tryz.prog 28 #[.string s, .int .i64 (a : Int), .int .i64 (b : Int)] w fun e w' => e = .returned (keyV ⟨#[]⟩ 0 0 false) ∧ Below w.heap.size w w' := by
  have hown := fun w1 (h : Below (w.alloc (.cells #[.int .i64 0, .int .i64 0] 62)).heap.size (w.alloc (.cells #[.int .i64 0, .int .i64 0] 62)) w1) => pair_own h
  have HO := Lib.hid hown
  clear hown
  have hc := Lib.hid fun w => Tryz.inside_calls s (a : Int) (b : Int) w
  rw [inB_nat hab hb] at hc
  have hcb : seekL colB s.data.toList a b ≤ b := seek_le hab
  have hca : a ≤ seekL colB s.data.toList a b := seek_ge _ _ _ _
  obtain ⟨hF1, hF2, hF3, _⟩ := is_trim (l := s.data.toList) hca (by simp; omega)
  have C1 := Lib.hid fun v W (hv : IsClass v (has sColon) W) => Tryz.seekColon s a b W hab hb hs hv
  have C2 := Lib.hid fun W => Tryz.trim_calls s a (seekL colB s.data.toList a b) W hca (by omega) hs
  have C3 := Lib.hid fun W => Tryz.textN s (trimL s.data.toList a (seekL colB s.data.toList a b)).1 (trimL s.data.toList a (seekL colB s.data.toList a b)).2 W hF2 (by omega)
  have hks : (keyPart s a b).size ≤ 2000000 := by unfold keyPart; rw [extract_size' s hF2 (by omega)]; omega
  obtain ⟨⟨F, T⟩, hFT⟩ : ∃ FT, trimL s.data.toList a (seekL colB s.data.toList a b) = FT := ⟨_, rfl⟩
  have hK : s.extract F T = keyPart s a b := by unfold keyPart; rw [hFT]
  rw [hFT] at C2 C3
  simp only at C2 C3
  rw [hK] at C3
  obtain ⟨K, hK2⟩ : ∃ K, keyPart s a b = K := ⟨_, rfl⟩
  rw [hK2] at C3 hks hik
  try rw [hK2]
  have C4 := Lib.hid fun v W (hv : IsClass v keyP W) => Tryz.fits_calls K W hks flat_key hv
  rw [show fitL (ofB keyP) K.data.toList = isKey K from rfl, hik] at C4
  clear hFT hK hK2 hF1 hF2 hF3 hik
  go_enter Tryz.func28, Tryz.ntmps28
  go_wp2_with (go_at_call 49; (with_reducible refine (hc.out _).mono ?_); rintro e w1 ⟨rfl, hw1⟩; subst hw1)
  refine (Tryz.oneColon _).mono ?_
  rintro e w2 ⟨v2, rfl, hv, hb2⟩
  have H2 := Lib.hid hv
  obtain ⟨g2, l2, rfl, _⟩ := hv
  go_wp2_with (fail)
  refine (C1.out _ _ H2.out).mono ?_
  rintro e w3 ⟨rfl, hb3⟩
  go_wp2_with (fail)
  refine (C2.out _).mono ?_
  rintro e w4 ⟨rfl, hb4⟩
  go_wp2_with (fail)
  refine (C3.out _).mono ?_
  rintro e w5 ⟨rfl, hb5⟩
  have B5 := hb2.trans ((hb3.trans ((hb4.trans (hb5.mono hb4.size)).mono hb3.size)).mono hb2.size)
  clear hb2 hb3 hb4 hb5 H2 C1 C2 C3
  go_wp2_with (fail)
  refine (Tryz.spanAZ _).mono ?_
  rintro e w6 ⟨v6, rfl, hv, hb6⟩
  have H6 := Lib.hid hv
  obtain ⟨g6, l6, rfl, _⟩ := hv
  go_wp2_with (fail)
  refine (Tryz.span09 _).mono ?_
  rintro e w7 ⟨v7, rfl, hv, hb7⟩
  have H7 := Lib.hid hv
  obtain ⟨g7, l7, rfl, _⟩ := hv
  go_wp2_with (fail)
  refine (Tryz.oneUnder _).mono ?_
  rintro e w8 ⟨v8, rfl, hv, hb8⟩
  have H8 := Lib.hid hv
  obtain ⟨g8, l8, rfl, _⟩ := hv
  go_wp2_with (fail)
  refine (Tryz.either3 (H6.out.later (hb7.trans (hb8.mono hb7.size))) (H7.out.later hb8) H8.out).mono ?_
  rintro e w9 ⟨v9, rfl, hv, hb9⟩
  have H9 := Lib.hid hv
  obtain ⟨g9, l9, rfl, _⟩ := hv
  have B9 := B5.trans ((hb6.trans ((hb7.trans ((hb8.trans (hb9.mono hb8.size)).mono hb7.size)).mono hb6.size)).mono B5.size)
  clear hb6 hb7 hb8 hb9 H6 H7 H8 B5
  go_wp2_with (fail)
  refine (C4.out _ _ H9.out).mono ?_
  rintro e w10 ⟨rfl, hb10⟩
  have B10 := B9.trans (hb10.mono B9.size)
  clear B9 hb10 H9 C4
  obtain ⟨r0, r1, f0, f1, hz⟩ := HO.out _ B10
  have hB : Below w.heap.size w w10 := ((Below.refl _ _).alloc (Nat.le_refl _) _).trans (B10.mono (by simp))
  clear B10
  go_wp2
  refine bodyPost_ret (v := keyV ⟨#[]⟩ 0 0 false) (by simp [results, Tryz.results28, go_sem, keyV, r0, r1]) rfl ⟨rfl, ?_⟩
  exact (hB.setCell (by simp) _).setCell (by simp) _

set_option maxRecDepth 100000 in
set_option maxHeartbeats 2000000 in
theorem Tryz.Key_alone (s : ByteArray) (a b : Nat) (w : World) (hs : s.size ≤ 2000000) (hab : a ≤ b) (hb : b ≤ s.size) (hik : isKey (keyPart s a b) = true) (hcol : seekL colB s.data.toList a b = b) :
    Calls Tryz.prog 28 #[.string s, .int .i64 (a : Int), .int .i64 (b : Int)] w fun e w' => e = .returned (keyV (keyPart s a b) b b true) ∧ Below w.heap.size w w' := by
  have hown := fun w1 (h : Below (w.alloc (.cells #[.int .i64 0, .int .i64 0] 62)).heap.size (w.alloc (.cells #[.int .i64 0, .int .i64 0] 62)) w1) => pair_own h
  have HO := Lib.hid hown
  clear hown
  have hc := Lib.hid fun w => Tryz.inside_calls s (a : Int) (b : Int) w
  rw [inB_nat hab hb] at hc
  have hcb : seekL colB s.data.toList a b ≤ b := seek_le hab
  have hca : a ≤ seekL colB s.data.toList a b := seek_ge _ _ _ _
  obtain ⟨hF1, hF2, hF3, _⟩ := is_trim (l := s.data.toList) hca (by simp; omega)
  rw [hcol] at hcb hca hF1 hF2 hF3
  have hcolK : keyPart s a b = s.extract (trimL s.data.toList a b).1 (trimL s.data.toList a b).2 := by unfold keyPart; rw [hcol]
  have C1 := Lib.hid fun v W (hv : IsClass v (has sColon) W) => Tryz.seekColon s a b W hab hb hs hv
  rw [hcol] at C1
  have C2 := Lib.hid fun W => Tryz.trim_calls s a (b) W hca (by omega) hs
  have C3 := Lib.hid fun W => Tryz.textN s (trimL s.data.toList a (b)).1 (trimL s.data.toList a (b)).2 W hF2 (by omega)
  have hks : (keyPart s a b).size ≤ 2000000 := by rw [hcolK, extract_size' s hF2 (by omega)]; omega
  obtain ⟨⟨F, T⟩, hFT⟩ : ∃ FT, trimL s.data.toList a (b) = FT := ⟨_, rfl⟩
  have hK : s.extract F T = keyPart s a b := by rw [hcolK, hFT]
  rw [hFT] at C2 C3
  simp only at C2 C3
  rw [hK] at C3
  obtain ⟨K, hK2⟩ : ∃ K, keyPart s a b = K := ⟨_, rfl⟩
  rw [hK2] at C3 hks hik
  try rw [hK2]
  have C4 := Lib.hid fun v W (hv : IsClass v keyP W) => Tryz.fits_calls K W hks flat_key hv
  rw [show fitL (ofB keyP) K.data.toList = isKey K from rfl, hik] at C4
  clear hcolK hcol hFT hK hK2 hF1 hF2 hF3 hik
  go_enter Tryz.func28, Tryz.ntmps28
  go_wp2_with (go_at_call 49; (with_reducible refine (hc.out _).mono ?_); rintro e w1 ⟨rfl, hw1⟩; subst hw1)
  refine (Tryz.oneColon _).mono ?_
  rintro e w2 ⟨v2, rfl, hv, hb2⟩
  have H2 := Lib.hid hv
  obtain ⟨g2, l2, rfl, _⟩ := hv
  go_wp2_with (fail)
  refine (C1.out _ _ H2.out).mono ?_
  rintro e w3 ⟨rfl, hb3⟩
  go_wp2_with (fail)
  refine (C2.out _).mono ?_
  rintro e w4 ⟨rfl, hb4⟩
  go_wp2_with (fail)
  refine (C3.out _).mono ?_
  rintro e w5 ⟨rfl, hb5⟩
  have B5 := hb2.trans ((hb3.trans ((hb4.trans (hb5.mono hb4.size)).mono hb3.size)).mono hb2.size)
  clear hb2 hb3 hb4 hb5 H2 C1 C2 C3
  go_wp2_with (fail)
  refine (Tryz.spanAZ _).mono ?_
  rintro e w6 ⟨v6, rfl, hv, hb6⟩
  have H6 := Lib.hid hv
  obtain ⟨g6, l6, rfl, _⟩ := hv
  go_wp2_with (fail)
  refine (Tryz.span09 _).mono ?_
  rintro e w7 ⟨v7, rfl, hv, hb7⟩
  have H7 := Lib.hid hv
  obtain ⟨g7, l7, rfl, _⟩ := hv
  go_wp2_with (fail)
  refine (Tryz.oneUnder _).mono ?_
  rintro e w8 ⟨v8, rfl, hv, hb8⟩
  have H8 := Lib.hid hv
  obtain ⟨g8, l8, rfl, _⟩ := hv
  go_wp2_with (fail)
  refine (Tryz.either3 (H6.out.later (hb7.trans (hb8.mono hb7.size))) (H7.out.later hb8) H8.out).mono ?_
  rintro e w9 ⟨v9, rfl, hv, hb9⟩
  have H9 := Lib.hid hv
  obtain ⟨g9, l9, rfl, _⟩ := hv
  have B9 := B5.trans ((hb6.trans ((hb7.trans ((hb8.trans (hb9.mono hb8.size)).mono hb7.size)).mono hb6.size)).mono B5.size)
  clear hb6 hb7 hb8 hb9 H6 H7 H8 B5
  go_wp2_with (fail)
  refine (C4.out _ _ H9.out).mono ?_
  rintro e w10 ⟨rfl, hb10⟩
  have B10 := B9.trans (hb10.mono B9.size)
  clear B9 hb10 H9 C4
  obtain ⟨r0, r1, f0, f1, hz⟩ := HO.out _ B10
  have hB : Below w.heap.size w w10 := ((Below.refl _ _).alloc (Nat.le_refl _) _).trans (B10.mono (by simp))
  clear B10
  go_wp2
  refine bodyPost_ret (v := keyV K b b true) (by simp [results, Tryz.results28, go_sem, keyV, r0, r1]) rfl ⟨rfl, ?_⟩
  exact (hB.setCell (by simp) _).setCell (by simp) _

set_option maxRecDepth 100000 in
set_option maxHeartbeats 2000000 in
theorem Tryz.Key_both (s : ByteArray) (a b : Nat) (w : World) (hs : s.size ≤ 2000000) (hab : a ≤ b) (hb : b ≤ s.size) (hik : isKey (keyPart s a b) = true) (hcol : seekL colB s.data.toList a b < b) :
    Calls Tryz.prog 28 #[.string s, .int .i64 (a : Int), .int .i64 (b : Int)] w fun e w' => e = .returned (keyV (keyPart s a b) (trimL s.data.toList (seekL colB s.data.toList a b + 1) b).1 (trimL s.data.toList (seekL colB s.data.toList a b + 1) b).2 true) ∧ Below w.heap.size w w' := by
  have hown := fun w1 (h : Below (w.alloc (.cells #[.int .i64 0, .int .i64 0] 62)).heap.size (w.alloc (.cells #[.int .i64 0, .int .i64 0] 62)) w1) => pair_own h
  have HO := Lib.hid hown
  clear hown
  have hc := Lib.hid fun w => Tryz.inside_calls s (a : Int) (b : Int) w
  rw [inB_nat hab hb] at hc
  have hcb : seekL colB s.data.toList a b ≤ b := seek_le hab
  have hca : a ≤ seekL colB s.data.toList a b := seek_ge _ _ _ _
  obtain ⟨hF1, hF2, hF3, _⟩ := is_trim (l := s.data.toList) hca (by simp; omega)
  have C1 := Lib.hid fun v W (hv : IsClass v (has sColon) W) => Tryz.seekColon s a b W hab hb hs hv
  have C2 := Lib.hid fun W => Tryz.trim_calls s a (seekL colB s.data.toList a b) W hca (by omega) hs
  have C3 := Lib.hid fun W => Tryz.textN s (trimL s.data.toList a (seekL colB s.data.toList a b)).1 (trimL s.data.toList a (seekL colB s.data.toList a b)).2 W hF2 (by omega)
  have hks : (keyPart s a b).size ≤ 2000000 := by unfold keyPart; rw [extract_size' s hF2 (by omega)]; omega
  have C5 := Lib.hid fun W => Tryz.trim_calls s (seekL colB s.data.toList a b + 1) b W hcol hb hs
  obtain ⟨⟨F2, T2⟩, hFT2⟩ : ∃ FT, trimL s.data.toList (seekL colB s.data.toList a b + 1) b = FT := ⟨_, rfl⟩
  rw [hFT2] at C5 ⊢
  simp only at C5 ⊢
  obtain ⟨⟨F, T⟩, hFT⟩ : ∃ FT, trimL s.data.toList a (seekL colB s.data.toList a b) = FT := ⟨_, rfl⟩
  have hK : s.extract F T = keyPart s a b := by unfold keyPart; rw [hFT]
  rw [hFT] at C2 C3
  simp only at C2 C3
  rw [hK] at C3
  obtain ⟨K, hK2⟩ : ∃ K, keyPart s a b = K := ⟨_, rfl⟩
  rw [hK2] at C3 hks hik
  try rw [hK2]
  have C4 := Lib.hid fun v W (hv : IsClass v keyP W) => Tryz.fits_calls K W hks flat_key hv
  rw [show fitL (ofB keyP) K.data.toList = isKey K from rfl, hik] at C4
  obtain ⟨c, hcc⟩ : ∃ c, seekL colB s.data.toList a b = c := ⟨_, rfl⟩
  rw [hcc] at C1 C2 C5 hcol
  have d1 : (c == b) = false := by rw [beq_eq_false_iff_ne]; omega
  have d2 : ((c : Int) == (b : Int)) = false := by rw [beq_eq_false_iff_ne]; omega
  have C6 : Hid (∀ W, Calls Tryz.prog 51 #[.string s, .int .i64 ((c : Int) + 1), .int .i64 (b : Int)] W fun e w' => e = .returned (.agg #[.int .i64 (F2 : Nat), .int .i64 (T2 : Nat)]) ∧ Below W.heap.size W w') := C5
  have hcs : c < 2000000 := by omega
  clear hcc hFT2 C5 hFT hK hK2 hF1 hF2 hF3 hik
  go_enter Tryz.func28, Tryz.ntmps28
  go_wp2_with (go_at_call 49; (with_reducible refine (hc.out _).mono ?_); rintro e w1 ⟨rfl, hw1⟩; subst hw1)
  refine (Tryz.oneColon _).mono ?_
  rintro e w2 ⟨v2, rfl, hv, hb2⟩
  have H2 := Lib.hid hv
  obtain ⟨g2, l2, rfl, _⟩ := hv
  go_wp2_with (fail)
  refine (C1.out _ _ H2.out).mono ?_
  rintro e w3 ⟨rfl, hb3⟩
  go_wp2_with (fail)
  refine (C2.out _).mono ?_
  rintro e w4 ⟨rfl, hb4⟩
  go_wp2_with (fail)
  refine (C3.out _).mono ?_
  rintro e w5 ⟨rfl, hb5⟩
  have B5 := hb2.trans ((hb3.trans ((hb4.trans (hb5.mono hb4.size)).mono hb3.size)).mono hb2.size)
  clear hb2 hb3 hb4 hb5 H2 C1 C2 C3
  go_wp2_with (fail)
  refine (Tryz.spanAZ _).mono ?_
  rintro e w6 ⟨v6, rfl, hv, hb6⟩
  have H6 := Lib.hid hv
  obtain ⟨g6, l6, rfl, _⟩ := hv
  go_wp2_with (fail)
  refine (Tryz.span09 _).mono ?_
  rintro e w7 ⟨v7, rfl, hv, hb7⟩
  have H7 := Lib.hid hv
  obtain ⟨g7, l7, rfl, _⟩ := hv
  go_wp2_with (fail)
  refine (Tryz.oneUnder _).mono ?_
  rintro e w8 ⟨v8, rfl, hv, hb8⟩
  have H8 := Lib.hid hv
  obtain ⟨g8, l8, rfl, _⟩ := hv
  go_wp2_with (fail)
  refine (Tryz.either3 (H6.out.later (hb7.trans (hb8.mono hb7.size))) (H7.out.later hb8) H8.out).mono ?_
  rintro e w9 ⟨v9, rfl, hv, hb9⟩
  have H9 := Lib.hid hv
  obtain ⟨g9, l9, rfl, _⟩ := hv
  have B9 := B5.trans ((hb6.trans ((hb7.trans ((hb8.trans (hb9.mono hb8.size)).mono hb7.size)).mono hb6.size)).mono B5.size)
  clear hb6 hb7 hb8 hb9 H6 H7 H8 B5
  go_wp2_with (fail)
  refine (C4.out _ _ H9.out).mono ?_
  rintro e w10 ⟨rfl, hb10⟩
  have B10 := B9.trans (hb10.mono B9.size)
  clear B9 hb10 H9 C4
  obtain ⟨r0, r1, f0, f1, hz⟩ := HO.out _ B10
  have hB : Below w.heap.size w w10 := ((Below.refl _ _).alloc (Nat.le_refl _) _).trans (B10.mono (by simp))
  clear r0 r1 f0 f1 hz hB
  go_wp2_with (fail)
  refine (C6.out _).mono ?_
  rintro e w11 ⟨rfl, hb11⟩
  have B11 := B10.trans (hb11.mono B10.size)
  obtain ⟨r0, r1, f0, f1, hz⟩ := HO.out _ B11
  have hB : Below w.heap.size w w11 := ((Below.refl _ _).alloc (Nat.le_refl _) _).trans (B11.mono (by simp))
  clear B10 B11 hb11
  go_wp2
  refine bodyPost_ret (v := keyV K F2 T2 true) (by simp [results, Tryz.results28, go_sem, keyV, r0, r1]) rfl ⟨rfl, ?_⟩
  exact (hB.setCell (by simp) _).setCell (by simp) _

theorem Tryz.Key_calls (s : ByteArray) (a b : Int) (k : ByteArray) (i j : Nat) (t : Bool) (w : World) (hs : s.size ≤ 2000000) (hk : KeyIs s a b k i j t) :
    Calls Tryz.prog 28 #[.string s, .int .i64 a, .int .i64 b] w fun e w' => e = .returned (keyV k i j t) ∧ Below w.heap.size w w' := by
  cases hk with
  | out _ _ h => exact Tryz.Key_out s a b w h
  | none x y h1 h2 h3 => exact Tryz.Key_none s x y w hs h1 h2 h3
  | alone x y h1 h2 h3 h4 => exact Tryz.Key_alone s _ _ w hs h1 h2 h3 h4
  | both x y h1 h2 h3 h4 => exact Tryz.Key_both s x y w hs h1 h2 h3 h4
#print axioms Tryz.Key_calls
end Go.Proofs
/- The document's own trimmed of this program, as a contract. Conditions: a text of at most two million bytes; a part of it. -/
namespace Go.Proofs
open Go.RowKit Go.Shelf Go.Wds

/-- A block of two cells that may be written. -/
def WdTwo (W : World) (b : Nat) (x y : Value) : Prop := W.cell? ⟨b, 0, none⟩ = some x ∧ W.cell? ⟨b, 1, none⟩ = some y ∧ W.frozen? ⟨b, 0, none⟩ = false ∧ W.frozen? ⟨b, 1, none⟩ = false
theorem WdTwo.set0 {W : World} {b : Nat} {x y : Value} (h : WdTwo W b x y) (u : Value) : WdTwo (W.setCell ⟨b, 0, none⟩ u) b u y :=
  ⟨World.cell?_setCell_same _ _ _ h.1, (World.cell?_setCell_other _ _ _ _ (fun e => by injection e with _ e2; cases e2)).trans h.2.1, by rw [World.frozen?_setCell]; exact h.2.2.1, by rw [World.frozen?_setCell]; exact h.2.2.2⟩
theorem WdTwo.set1 {W : World} {b : Nat} {x y : Value} (h : WdTwo W b x y) (u : Value) : WdTwo (W.setCell ⟨b, 1, none⟩ u) b x u :=
  ⟨(World.cell?_setCell_other _ _ _ _ (fun e => by injection e with _ e2; cases e2)).trans h.1, World.cell?_setCell_same _ _ _ h.2.1, by rw [World.frozen?_setCell]; exact h.2.2.1, by rw [World.frozen?_setCell]; exact h.2.2.2⟩
theorem WdTwo.far {W : World} {b b' j : Nat} {x y : Value} (h : WdTwo W b x y) (hb : b' ≠ b) (u : Value) : WdTwo (W.setCell ⟨b', j, none⟩ u) b x y :=
  ⟨(World.cell?_setCell_other _ _ _ _ (fun e => hb (by injection e))).trans h.1, (World.cell?_setCell_other _ _ _ _ (fun e => hb (by injection e))).trans h.2.1, by rw [World.frozen?_setCell]; exact h.2.2.1, by rw [World.frozen?_setCell]; exact h.2.2.2⟩
theorem WdTwo.later {W W' : World} {b n : Nat} {x y : Value} (h : WdTwo W b x y) (hb : Below n W W') (hn : b < n) : WdTwo W' b x y :=
  ⟨(hb.cell (p := ⟨b, 0, none⟩) hn).trans h.1, (hb.cell (p := ⟨b, 1, none⟩) hn).trans h.2.1, (hb.frozen (p := ⟨b, 0, none⟩) hn).trans h.2.2.1, (hb.frozen (p := ⟨b, 1, none⟩) hn).trans h.2.2.2⟩
theorem WdTwo.new (w : World) (x y : Value) (t : TypeId) : WdTwo (w.alloc (.cells #[x, y] t)) w.heap.size x y := by
  obtain ⟨h1, h2, h3, h4, _⟩ := pair_own (w := w) (x := x) (y := y) (t := t) (Below.refl _ _)
  exact ⟨h1, h2, h3, h4⟩

set_option maxRecDepth 100000 in
set_option maxHeartbeats 2000000 in
theorem Tryz.rtrim_calls (s : ByteArray) (a b : Nat) (w : World) (hab : a ≤ b) (hb : b ≤ s.size) (hs : s.size ≤ 2000000) :
    Calls Tryz.prog 36 #[.string s, .agg #[.int .i64 (a : Int), .int .i64 (b : Int)]] w fun e w' => e = .returned (.agg #[.int .i64 ((trimL s.data.toList a b).1 : Nat), .int .i64 ((trimL s.data.toList a b).2 : Nat)]) ∧ Below w.heap.size w w' := by
  have HL := Lib.hid (show s.data.toList.length = s.size by simp)
  have HU := Lib.hid fun F T (h : IsTrim s.data.toList a b F T) => trim_unique (l := s.data.toList) (by rw [HL.out]; exact hb) h (is_trim hab (by rw [HL.out]; exact hb))
  go_enter Tryz.func36, Tryz.ntmps36
  go_wp2
  have k1 : Below w.heap.size w (w.alloc (.cells #[.int .i64 (a : Int), .int .i64 (b : Int)] 49)) := (Below.refl _ _).alloc (Nat.le_refl _) _
  have k2 : Below (w.heap.size + 1) (w.alloc (.cells #[.int .i64 (a : Int), .int .i64 (b : Int)] 49)) ((w.alloc (.cells #[.int .i64 (a : Int), .int .i64 (b : Int)] 49)).alloc (.cells #[.int .i64 0, .int .i64 0] 49)) := (Below.refl _ _).alloc (by simp) _
  have t1 := (WdTwo.new w (.int .i64 (a : Int)) (.int .i64 (b : Int)) 49).later k2 (by omega)
  have t2 := WdTwo.new (w.alloc (.cells #[.int .i64 (a : Int), .int .i64 (b : Int)] 49)) (.int .i64 0) (.int .i64 0) 49
  rw [show (w.alloc (.cells #[.int .i64 (a : Int), .int .i64 (b : Int)] 49)).heap.size = w.heap.size + 1 from by simp] at t2
  have kB := k1.trans (k2.mono (by omega))
  clear k1 k2
  go_loopg [] b (fun gf wr => ∃ k : Nat, a ≤ k ∧ k ≤ b ∧ Blank s.data.toList a k ∧ WdTwo wr w.heap.size (.int .i64 (k : Int)) (.int .i64 (b : Int)) ∧ WdTwo wr (w.heap.size + 1) (.int .i64 0) (.int .i64 0) ∧ Below w.heap.size w wr ∧ b ≤ k + gf)
  case atStart => exact ⟨a, Nat.le_refl _, hab, fun j x h1 h2 => by omega, t1, t2, kB, by omega⟩
  case round =>
    clear t1 t2 kB
    obtain ⟨k, hak, hkb, hbl, t1, t2, kB, hgk⟩ := hrel
    obtain ⟨c0, c1, f0, f1⟩ := t1
    by_cases hlt : k < b
    · have hks : k < s.size := by omega
      have hc := Tryz.blank_calls (s[k]'hks) wr
      have hg := list_get s k hks
      cases hbk : blk (s[k]'hks) with
      | true =>
        rw [hbk] at hc
        have HC := Lib.hid hc
        have HB := Lib.hid (show Blank s.data.toList a (k + 1) from fun j x h1 h2 h3 => by
          by_cases e : j = k
          · subst e; rw [hg] at h3; cases h3; exact hbk
          · exact hbl j x h1 (by omega) h3)
        have T1 := Lib.hid t2
        have T0 := Lib.hid (show WdTwo wr w.heap.size (.int .i64 (k : Int)) (.int .i64 (b : Int)) from ⟨c0, c1, f0, f1⟩)
        obtain ⟨g', rfl⟩ : ∃ g', gk = g' + 1 := ⟨gk - 1, by omega⟩
        clear hbl hc hbk hg t2
        go_wp2_with (go_at_call 57; (with_reducible refine HC.out.mono ?_); rintro e w2 ⟨rfl, rfl⟩)
        have hT := T0.out.set0 (.int .i64 ((k : Int) + 1))
        go_roundg g'
        case measure => omega
        case rel => exact ⟨k + 1, by omega, by omega, HB.out, by simpa using hT, T1.out.far (by omega) _, kB.setCell (Nat.le_refl _) _, by omega⟩
      | false =>
        rw [hbk] at hc
        have HC := Lib.hid hc
        have HX := Lib.hid (show k < b → ∃ c, s.data.toList[k]? = some c ∧ blk c = false from fun _ => ⟨_, hg, hbk⟩)
        have HB := Lib.hid hbl
        have T0 := Lib.hid (show WdTwo wr w.heap.size (.int .i64 (k : Int)) (.int .i64 (b : Int)) from ⟨c0, c1, f0, f1⟩)
        have T1 := Lib.hid t2
        clear hc hbk hg hbl t2
        go_wp2_with (go_at_call 57; (with_reducible refine HC.out.mono ?_); rintro e w2 ⟨rfl, hw2⟩; obtain rfl : wr = w2 := hw2.symm)
        clear c0 c1 f0 f1 HC hlt
        obtain ⟨wo, rfl⟩ : ∃ wo : World, wo = wr := ⟨_, rfl⟩
        go_loopg [] b (fun gf wr => ∃ t : Nat, k ≤ t ∧ t ≤ b ∧ Hid (Blank s.data.toList t b) ∧ WdTwo wr w.heap.size (.int .i64 (k : Int)) (.int .i64 (t : Int)) ∧ WdTwo wr (w.heap.size + 1) (.int .i64 0) (.int .i64 0) ∧ Below w.heap.size w wr ∧ t ≤ k + gf)
        case atStart => exact ⟨b, hkb, Nat.le_refl _, Lib.hid (fun j x h1 h2 => by omega), T0.out, T1.out, kB, by omega⟩
        case round =>
          clear T0 T1 kB hgk
          obtain ⟨t, hkt, htb, HE, t1, t2, kB, hgt⟩ := hrel
          obtain ⟨c0, c1, f0, f1⟩ := t1
          by_cases hlt2 : k < t
          · obtain ⟨u, rfl⟩ : ∃ u, t = u + 1 := ⟨t - 1, by omega⟩
            have hus : u < s.size := by omega
            have hc := Tryz.blank_calls (s[u]'hus) wr
            have hg := list_get s u hus
            have hku : k ≤ u := by omega
            cases hbk : blk (s[u]'hus) with
            | true =>
              rw [hbk] at hc
              have HC2 := Lib.hid hc
              have HB2 := Lib.hid (show Blank s.data.toList u b from fun j x h1 h2 h3 => by
                by_cases e : j = u
                · subst e; rw [hg] at h3; cases h3; exact hbk
                · exact HE.out j x (by omega) h2 h3)
              have T1 := Lib.hid t2
              have T0 := Lib.hid (show WdTwo wr w.heap.size (.int .i64 (k : Int)) (.int .i64 ((u + 1 : Nat) : Int)) from ⟨c0, c1, f0, f1⟩)
              obtain ⟨g', rfl⟩ : ∃ g', gk = g' + 1 := ⟨gk - 1, by omega⟩
              clear hc hbk hg t2
              go_wp2_with (go_at_call 57; (with_reducible refine HC2.out.mono ?_); rintro e w2 ⟨rfl, hw2⟩; obtain rfl : wr = w2 := hw2.symm)
              have hT := T0.out.set1 (.int .i64 (u : Int))
              go_roundg g'
              case measure => omega
              case rel => exact ⟨u, by omega, by omega, HB2, by simpa using hT, T1.out.far (by omega) _, kB.setCell (Nat.le_refl _) _, by omega⟩
            | false =>
              rw [hbk] at hc
              have HC2 := Lib.hid hc
              have HT := Lib.hid (HU.out k (u + 1) ⟨hak, by omega, htb, HB.out, HE.out, fun e => by omega, fun _ => ⟨fun x hx => by
                obtain ⟨c, h1, h2⟩ := HX.out (by omega)
                rw [h1] at hx; cases hx; exact h2, fun x hx => by
                rw [Nat.add_sub_cancel, hg] at hx; cases hx; exact hbk⟩⟩)
              obtain ⟨r0, r1, r2, r3⟩ := t2
              clear hc hbk hg
              go_wp2_with (go_at_call 57; (with_reducible refine HC2.out.mono ?_); rintro e w2 ⟨rfl, hw2⟩; obtain rfl : wr = w2 := hw2.symm)
              refine bodyPost_ret (v := .agg #[.int .i64 (k : Nat), .int .i64 ((u + 1 : Nat) : Int)]) (by simp [results, Tryz.results36, go_sem, r0, r1]) rfl ⟨by rw [HT.out.1, HT.out.2], ?_⟩
              exact (kB.setCell (by simp) _).setCell (by simp) _
          · have hkt2 : t = k := by omega
            subst hkt2
            have HT := Lib.hid (HU.out t t ⟨hak, Nat.le_refl _, htb, HB.out, HE.out, fun _ => by
              rcases Nat.lt_or_ge t b with h | h
              · obtain ⟨c, h1, h2⟩ := HX.out h
                have := HE.out t c (Nat.le_refl _) h h1
                rw [h2] at this; cases this
              · omega, fun h => by omega⟩)
            obtain ⟨r0, r1, r2, r3⟩ := t2
            go_wp2
            refine bodyPost_ret (v := .agg #[.int .i64 (t : Nat), .int .i64 (t : Nat)]) (by simp [results, Tryz.results36, go_sem, r0, r1]) rfl ⟨by rw [← HT.out.1, ← HT.out.2], ?_⟩
            exact (kB.setCell (by simp) _).setCell (by simp) _
    · have HX := Lib.hid (show k < b → ∃ c, s.data.toList[k]? = some c ∧ blk c = false from fun h => absurd h hlt)
      have HB := Lib.hid hbl
      have T0 := Lib.hid (show WdTwo wr w.heap.size (.int .i64 (k : Int)) (.int .i64 (b : Int)) from ⟨c0, c1, f0, f1⟩)
      have T1 := Lib.hid t2
      clear hbl t2
      go_wp2
      clear c0 c1 f0 f1 hlt
      obtain ⟨wo, rfl⟩ : ∃ wo : World, wo = wr := ⟨_, rfl⟩
      go_loopg [] b (fun gf wr => ∃ t : Nat, k ≤ t ∧ t ≤ b ∧ Hid (Blank s.data.toList t b) ∧ WdTwo wr w.heap.size (.int .i64 (k : Int)) (.int .i64 (t : Int)) ∧ WdTwo wr (w.heap.size + 1) (.int .i64 0) (.int .i64 0) ∧ Below w.heap.size w wr ∧ t ≤ k + gf)
      case atStart => exact ⟨b, hkb, Nat.le_refl _, Lib.hid (fun j x h1 h2 => by omega), T0.out, T1.out, kB, by omega⟩
      case round =>
        clear T0 T1 kB hgk
        obtain ⟨t, hkt, htb, HE, t1, t2, kB, hgt⟩ := hrel
        obtain ⟨c0, c1, f0, f1⟩ := t1
        by_cases hlt2 : k < t
        · obtain ⟨u, rfl⟩ : ∃ u, t = u + 1 := ⟨t - 1, by omega⟩
          have hus : u < s.size := by omega
          have hc := Tryz.blank_calls (s[u]'hus) wr
          have hg := list_get s u hus
          have hku : k ≤ u := by omega
          cases hbk : blk (s[u]'hus) with
          | true =>
            rw [hbk] at hc
            have HC2 := Lib.hid hc
            have HB2 := Lib.hid (show Blank s.data.toList u b from fun j x h1 h2 h3 => by
              by_cases e : j = u
              · subst e; rw [hg] at h3; cases h3; exact hbk
              · exact HE.out j x (by omega) h2 h3)
            have T1 := Lib.hid t2
            have T0 := Lib.hid (show WdTwo wr w.heap.size (.int .i64 (k : Int)) (.int .i64 ((u + 1 : Nat) : Int)) from ⟨c0, c1, f0, f1⟩)
            obtain ⟨g', rfl⟩ : ∃ g', gk = g' + 1 := ⟨gk - 1, by omega⟩
            clear hc hbk hg t2
            go_wp2_with (go_at_call 57; (with_reducible refine HC2.out.mono ?_); rintro e w2 ⟨rfl, hw2⟩; obtain rfl : wr = w2 := hw2.symm)
            have hT := T0.out.set1 (.int .i64 (u : Int))
            go_roundg g'
            case measure => omega
            case rel => exact ⟨u, by omega, by omega, HB2, by simpa using hT, T1.out.far (by omega) _, kB.setCell (Nat.le_refl _) _, by omega⟩
          | false =>
            rw [hbk] at hc
            have HC2 := Lib.hid hc
            have HT := Lib.hid (HU.out k (u + 1) ⟨hak, by omega, htb, HB.out, HE.out, fun e => by omega, fun _ => ⟨fun x hx => by
              obtain ⟨c, h1, h2⟩ := HX.out (by omega)
              rw [h1] at hx; cases hx; exact h2, fun x hx => by
              rw [Nat.add_sub_cancel, hg] at hx; cases hx; exact hbk⟩⟩)
            obtain ⟨r0, r1, r2, r3⟩ := t2
            clear hc hbk hg
            go_wp2_with (go_at_call 57; (with_reducible refine HC2.out.mono ?_); rintro e w2 ⟨rfl, hw2⟩; obtain rfl : wr = w2 := hw2.symm)
            refine bodyPost_ret (v := .agg #[.int .i64 (k : Nat), .int .i64 ((u + 1 : Nat) : Int)]) (by simp [results, Tryz.results36, go_sem, r0, r1]) rfl ⟨by rw [HT.out.1, HT.out.2], ?_⟩
            exact (kB.setCell (by simp) _).setCell (by simp) _
        · have hkt2 : t = k := by omega
          subst hkt2
          have HT := Lib.hid (HU.out t t ⟨hak, Nat.le_refl _, htb, HB.out, HE.out, fun _ => by
            rcases Nat.lt_or_ge t b with h | h
            · obtain ⟨c, h1, h2⟩ := HX.out h
              have := HE.out t c (Nat.le_refl _) h h1
              rw [h2] at this; cases this
            · omega, fun h => by omega⟩)
          obtain ⟨r0, r1, r2, r3⟩ := t2
          go_wp2
          refine bodyPost_ret (v := .agg #[.int .i64 (t : Nat), .int .i64 (t : Nat)]) (by simp [results, Tryz.results36, go_sem, r0, r1]) rfl ⟨by rw [← HT.out.1, ← HT.out.2], ?_⟩
          exact (kB.setCell (by simp) _).setCell (by simp) _
#print axioms Tryz.rtrim_calls
end Go.Proofs
/- The document's own Key of this program, as a contract. Conditions: a text of at most two million bytes. -/
namespace Go.Wds
open Go.Proofs
theorem isKey_eq (k : ByteArray) : isKey k = (decide (1 ≤ k.size) && decide (k.size ≤ 40) && allL (ofB keyP) k.data.toList) := by
  unfold isKey fitL; rw [show k.data.toList.length = k.size by simp]
theorem col_step {s : ByteArray} {a b k : Nat} (hk : k < b) (hak : a ≤ k) (h : ∀ j c, a ≤ j → j < k → s.data.toList[j]? = some c → colB c = false) (hlt : k < s.size) (hc : (s[k]'hlt) ≠ 58) : ∀ j c, a ≤ j → j < k + 1 → s.data.toList[j]? = some c → colB c = false := fun j c h1 h2 h3 => by
  by_cases e : j = k
  · subst e
    rw [list_get s j hlt] at h3
    cases h3
    unfold colB
    rw [beq_eq_false_iff_ne]; exact hc
  · exact h j c h1 (by omega) h3
end Go.Wds
namespace Go.Proofs
open Go.RowKit Go.Shelf Go.Wds
theorem not_empty (s : ByteArray) (h0 : ¬ s.size = 0) : s.toList.isEmpty = false := by
  rw [Lib.toList_data]
  cases h : s.data.toList with
  | nil => have : s.data.toList.length = s.size := Array.length_toList; rw [h] at this; simp at this; omega
  | cons a r => rfl
theorem Tryz.rtextN (s : ByteArray) (a b : Nat) (w : World) (hab : a ≤ b) (hb : b ≤ s.size) :
    Calls Tryz.prog 17 #[.string s, .agg #[.int .i64 (a : Int), .int .i64 (b : Int)]] w fun e w' => e = .returned (.string (s.extract a b)) ∧ Below w.heap.size w w' := by
  have := Tryz.rText_calls s (a : Int) (b : Int) w
  rwa [textI_nat hab hb] at this

set_option maxRecDepth 100000 in
theorem Tryz.rKey_out (s : ByteArray) (a b : Int) (w : World) (h : inB s.size a b = false) :
    Calls Tryz.prog 13 #[.string s, .int .i64 a, .int .i64 b] w fun e w' => e = .returned (keyV ⟨#[]⟩ 0 0 false) ∧ Below w.heap.size w w' := by
  have hc := Lib.hid fun w => Tryz.places_calls s a b w
  rw [h] at hc
  obtain ⟨r0, r1, f0, f1, hz⟩ := pair_own (Below.refl _ (w.alloc (.cells #[.int .i64 0, .int .i64 0] 49)))
  clear h
  go_enter Tryz.func13, Tryz.ntmps13
  go_wp2_with (go_at_call 35; (with_reducible refine (hc.out _).mono ?_); rintro e w1 ⟨rfl, hw1⟩; subst hw1)
  refine bodyPost_ret (v := keyV ⟨#[]⟩ 0 0 false) (by simp [results, Tryz.results13, go_sem, keyV]) rfl ⟨rfl, ?_⟩
  exact (Below.refl _ _).alloc (Nat.le_refl _) _

set_option maxRecDepth 100000 in
set_option maxHeartbeats 4000000 in
theorem Tryz.rKey_none (s : ByteArray) (a b : Nat) (w : World) (hs : s.size ≤ 2000000) (hab : a ≤ b) (hb : b ≤ s.size) (hik : isKey (keyPart s a b) = false) :
    Calls Tryz.prog 13 #[.string s, .int .i64 (a : Int), .int .i64 (b : Int)] w fun e w' => e = .returned (keyV ⟨#[]⟩ 0 0 false) ∧ Below w.heap.size w w' := by
  have hown := fun w1 (h : Below (w.alloc (.cells #[.int .i64 0, .int .i64 0] 49)).heap.size (w.alloc (.cells #[.int .i64 0, .int .i64 0] 49)) w1) => pair_own h
  have HO := Lib.hid hown
  clear hown
  have hc := Lib.hid fun w => Tryz.places_calls s (a : Int) (b : Int) w
  rw [inB_nat hab hb] at hc
  have hcb : seekL colB s.data.toList a b ≤ b := seek_le hab
  have hca : a ≤ seekL colB s.data.toList a b := seek_ge _ _ _ _
  obtain ⟨hF1, hF2, hF3, _⟩ := is_trim (l := s.data.toList) hca (by simp; omega)
  have C2 := Lib.hid fun W => Tryz.rtrim_calls s a (seekL colB s.data.toList a b) W hca (by omega) hs
  have C3 := Lib.hid fun W => Tryz.rtextN s (trimL s.data.toList a (seekL colB s.data.toList a b)).1 (trimL s.data.toList a (seekL colB s.data.toList a b)).2 W hF2 (by omega)
  have hks : (keyPart s a b).size ≤ 2000000 := by unfold keyPart; rw [extract_size' s hF2 (by omega)]; omega
  obtain ⟨⟨F, T⟩, hFT⟩ : ∃ FT, trimL s.data.toList a (seekL colB s.data.toList a b) = FT := ⟨_, rfl⟩
  have hK : s.extract F T = keyPart s a b := by unfold keyPart; rw [hFT]
  rw [hFT] at C2 C3
  simp only at C2 C3
  rw [hK] at C3
  obtain ⟨K, hK2⟩ : ∃ K, keyPart s a b = K := ⟨_, rfl⟩
  rw [hK2] at C3 hks hik
  try rw [hK2]
  rw [isKey_eq] at hik
  have HIK := Lib.hid hik
  obtain ⟨c, hcc⟩ : ∃ c, seekL colB s.data.toList a b = c := ⟨_, rfl⟩
  rw [hcc] at C2 hcb hca
  have HCC := Lib.hid hcc
  have HKL := Lib.hid (show K.data.toList.length = K.size by simp)
  clear hcc hFT hK hK2 hF1 hF2 hF3 hik
  go_enter Tryz.func13, Tryz.ntmps13
  go_wp2_with (go_at_call 35; (with_reducible refine (hc.out _).mono ?_); rintro e w1 ⟨rfl, hw1⟩; subst hw1)
  go_loop [9] (fun v => ∃ k : Nat, v = .int .i64 (k : Int) ∧ a ≤ k ∧ k ≤ b ∧ ∀ j x, a ≤ j → j < k → s.data.toList[j]? = some x → colB x = false) (fun v => b - (intOf v).toNat)
  case atStart => exact ⟨a, rfl, Nat.le_refl _, hab, fun j x h1 h2 => by omega⟩
  case round =>
    obtain ⟨k, rfl, hak, hkb, hno⟩ := hrel
    by_cases hlt : k < b
    · have hks2 : k < s.size := by omega
      by_cases h58 : (s[k]'hks2) = 58
      · have hkc : k = c := by rw [← HCC.out]; exact (seek_eq hak hkb hno (fun _ => ⟨_, list_get s k hks2, by unfold colB; rw [h58]; rfl⟩)).symm
        have d1 : (((s[k]'hks2).toNat : Int) != 58) = false := by rw [h58]; rfl
        clear hno h58
        subst hkc
        go_wp2_with (fail)
        refine (C2.out _).mono ?_
        rintro e w2 ⟨rfl, hb2⟩
        go_wp2_with (fail)
        refine (C3.out _).mono ?_
        rintro e w3 ⟨rfl, hb3⟩
        have B3 := hb2.trans (hb3.mono hb2.size)
        clear hb2 hb3 C2 C3 d1
        obtain ⟨r0, r1, f0, f1, hz⟩ := HO.out _ B3
        have hB : Below w.heap.size w w3 := ((Below.refl _ _).alloc (Nat.le_refl _) _).trans (B3.mono (by simp))
        clear B3
        by_cases hz0 : K.size = 0
        · have hKe : K = ⟨#[]⟩ := by
            cases K with
            | mk d => exact congrArg ByteArray.mk (Array.eq_empty_of_size_eq_zero hz0)
          subst hKe
          clear HIK HKL hks hz0
          go_wp2
          refine bodyPost_ret (v := keyV ⟨#[]⟩ 0 0 false) (by simp [results, Tryz.results13, go_sem, keyV, r0, r1]) rfl ⟨rfl, ?_⟩
          exact (hB.setCell (by simp) _).setCell (by simp) _
        · have e1 := not_empty K hz0
          have e2 : ¬ K.toList = [] := fun h => by rw [h] at e1; cases e1
          by_cases h40 : 40 < K.size
          · have d40 : decide ((40 : Int) < (K.size : Int)) = true := decide_eq_true (by omega)
            clear HIK HKL hz0 h40
            go_wp2
            refine bodyPost_ret (v := keyV ⟨#[]⟩ 0 0 false) (by simp [results, Tryz.results13, go_sem, keyV, r0, r1]) rfl ⟨rfl, ?_⟩
            exact (hB.setCell (by simp) _).setCell (by simp) _
          · have d40 : decide ((40 : Int) < (K.size : Int)) = false := decide_eq_false (by omega)
            obtain ⟨q, hq⟩ : ∃ q, ofB keyP = q := ⟨_, rfl⟩
            have hall := HIK.out
            rw [decide_eq_true (show 1 ≤ K.size by omega), decide_eq_true (show K.size ≤ 40 by omega), Bool.true_and, Bool.true_and, hq] at hall
            have HALL := Lib.hid hall
            have HQ := Lib.hid hq
            clear HIK hall hq hz0 h40
            go_wp2
            clear e1 e2 d40
            go_loop [11] (fun v => ∃ m : Nat, v = .int .i64 (m : Int) ∧ m ≤ K.size ∧ Hid (allL q K.data.toList = allL q (K.data.toList.drop m))) (fun v => K.size - (intOf v).toNat)
            case atStart => exact ⟨0, rfl, Nat.zero_le _, Lib.hid rfl⟩
            case round =>
              obtain ⟨m, rfl, hm, HA⟩ := hrel
              by_cases hltm : m < K.size
              · have hst := allL_step (q := q) (list_get K m hltm)
                have hqc : q (K[m]'hltm) = keyP (K[m]'hltm).toNat := by rw [← HQ.out]; rfl
                rw [keyP_eq] at hqc
                have hst2 := HA.out.trans hst
                rw [hqc] at hst2
                clear hst hqc
                have hparts : ((48 ≤ (K[m]'hltm).toNat ∧ (K[m]'hltm).toNat ≤ 57) ∨ (65 ≤ (K[m]'hltm).toNat ∧ (K[m]'hltm).toNat ≤ 90) ∨ (K[m]'hltm).toNat = 95) ∨ ((K[m]'hltm).toNat < 48 ∨ (58 ≤ (K[m]'hltm).toNat ∧ (K[m]'hltm).toNat ≤ 64) ∨ (91 ≤ (K[m]'hltm).toNat ∧ (K[m]'hltm).toNat ≤ 94) ∨ 96 ≤ (K[m]'hltm).toNat) := by omega
                rcases hparts with hp | hp
                · rcases hp with hp | hp | hp
                  all_goals
                    rw [show decide ((65 ≤ (K[m]'hltm).toNat ∧ (K[m]'hltm).toNat ≤ 90) ∨ (48 ≤ (K[m]'hltm).toNat ∧ (K[m]'hltm).toNat ≤ 57) ∨ (K[m]'hltm).toNat = 95) = true from decide_eq_true (by omega), Bool.true_and] at hst2
                    have HS := Lib.hid hst2
                    clear hst2
                    first | have d1 : decide ((((K[m]'hltm).toNat : Nat) : Int) < 65) = true := decide_eq_true (by omega) | have d1 : decide ((((K[m]'hltm).toNat : Nat) : Int) < 65) = false := decide_eq_false (by omega)
                    first | have d2 : decide ((90 : Int) < (((K[m]'hltm).toNat : Nat) : Int)) = true := decide_eq_true (by omega) | have d2 : decide ((90 : Int) < (((K[m]'hltm).toNat : Nat) : Int)) = false := decide_eq_false (by omega)
                    first | have d3 : decide ((((K[m]'hltm).toNat : Nat) : Int) < 48) = true := decide_eq_true (by omega) | have d3 : decide ((((K[m]'hltm).toNat : Nat) : Int) < 48) = false := decide_eq_false (by omega)
                    first | have d4 : decide ((57 : Int) < (((K[m]'hltm).toNat : Nat) : Int)) = true := decide_eq_true (by omega) | have d4 : decide ((57 : Int) < (((K[m]'hltm).toNat : Nat) : Int)) = false := decide_eq_false (by omega)
                    first | have d5 : ((((K[m]'hltm).toNat : Nat) : Int) != 95) = true := bne_iff_ne.2 (by omega) | have d5 : ((((K[m]'hltm).toNat : Nat) : Int) != 95) = false := bne_eq_false_iff_eq.2 (by omega)
                    clear hp
                    go_wp2
                    go_round
                    case rel => exact ⟨m + 1, by go_num, by omega, HS⟩
                    case measure => simp [intOf]; omega
                · rcases hp with hp | hp | hp | hp
                  all_goals
                    clear hst2
                    first | have d1 : decide ((((K[m]'hltm).toNat : Nat) : Int) < 65) = true := decide_eq_true (by omega) | have d1 : decide ((((K[m]'hltm).toNat : Nat) : Int) < 65) = false := decide_eq_false (by omega)
                    first | have d2 : decide ((90 : Int) < (((K[m]'hltm).toNat : Nat) : Int)) = true := decide_eq_true (by omega) | have d2 : decide ((90 : Int) < (((K[m]'hltm).toNat : Nat) : Int)) = false := decide_eq_false (by omega)
                    first | have d3 : decide ((((K[m]'hltm).toNat : Nat) : Int) < 48) = true := decide_eq_true (by omega) | have d3 : decide ((((K[m]'hltm).toNat : Nat) : Int) < 48) = false := decide_eq_false (by omega)
                    first | have d4 : decide ((57 : Int) < (((K[m]'hltm).toNat : Nat) : Int)) = true := decide_eq_true (by omega) | have d4 : decide ((57 : Int) < (((K[m]'hltm).toNat : Nat) : Int)) = false := decide_eq_false (by omega)
                    first | have d5 : ((((K[m]'hltm).toNat : Nat) : Int) != 95) = true := bne_iff_ne.2 (by omega) | have d5 : ((((K[m]'hltm).toNat : Nat) : Int) != 95) = false := bne_eq_false_iff_eq.2 (by omega)
                    clear hp
                    go_wp2
                    refine bodyPost_ret (v := keyV ⟨#[]⟩ 0 0 false) (by simp [results, Tryz.results13, go_sem, keyV, r0, r1]) rfl ⟨rfl, ?_⟩
                    exact (hB.setCell (by simp) _).setCell (by simp) _
              · exfalso
                have hmm : m = K.size := by omega
                have h1 := HA.out
                rw [HALL.out, hmm, ← HKL.out, allL_end] at h1
                cases h1
      · have HN := Lib.hid (col_step hlt hak hno hks2 h58)
        have d1 : (((s[k]'hks2).toNat : Int) != 58) = true := by
          rw [bne_iff_ne]
          intro e
          exact h58 (UInt8.toNat_inj.1 (by have e' : (s[k]'hks2).toNat = 58 := by omega
                                           exact e'))
        clear hno h58
        go_wp2
        go_round
        case rel => exact ⟨k + 1, by go_num, by omega, by omega, HN.out⟩
        case measure => simp [intOf]; omega
    · have hkc : k = c := by rw [← HCC.out]; exact (seek_eq hak hkb hno (fun h => absurd h hlt)).symm
      clear hno
      subst hkc
      go_wp2_with (fail)
      refine (C2.out _).mono ?_
      rintro e w2 ⟨rfl, hb2⟩
      go_wp2_with (fail)
      refine (C3.out _).mono ?_
      rintro e w3 ⟨rfl, hb3⟩
      have B3 := hb2.trans (hb3.mono hb2.size)
      clear hb2 hb3 C2 C3
      obtain ⟨r0, r1, f0, f1, hz⟩ := HO.out _ B3
      have hB : Below w.heap.size w w3 := ((Below.refl _ _).alloc (Nat.le_refl _) _).trans (B3.mono (by simp))
      clear B3
      by_cases hz0 : K.size = 0
      · have hKe : K = ⟨#[]⟩ := by
          cases K with
          | mk d => exact congrArg ByteArray.mk (Array.eq_empty_of_size_eq_zero hz0)
        subst hKe
        clear HIK HKL hks hz0
        go_wp2
        refine bodyPost_ret (v := keyV ⟨#[]⟩ 0 0 false) (by simp [results, Tryz.results13, go_sem, keyV, r0, r1]) rfl ⟨rfl, ?_⟩
        exact (hB.setCell (by simp) _).setCell (by simp) _
      · have e1 := not_empty K hz0
        have e2 : ¬ K.toList = [] := fun h => by rw [h] at e1; cases e1
        by_cases h40 : 40 < K.size
        · have d40 : decide ((40 : Int) < (K.size : Int)) = true := decide_eq_true (by omega)
          clear HIK HKL hz0 h40
          go_wp2
          refine bodyPost_ret (v := keyV ⟨#[]⟩ 0 0 false) (by simp [results, Tryz.results13, go_sem, keyV, r0, r1]) rfl ⟨rfl, ?_⟩
          exact (hB.setCell (by simp) _).setCell (by simp) _
        · have d40 : decide ((40 : Int) < (K.size : Int)) = false := decide_eq_false (by omega)
          obtain ⟨q, hq⟩ : ∃ q, ofB keyP = q := ⟨_, rfl⟩
          have hall := HIK.out
          rw [decide_eq_true (show 1 ≤ K.size by omega), decide_eq_true (show K.size ≤ 40 by omega), Bool.true_and, Bool.true_and, hq] at hall
          have HALL := Lib.hid hall
          have HQ := Lib.hid hq
          clear HIK hall hq hz0 h40
          go_wp2
          clear e1 e2 d40
          go_loop [11] (fun v => ∃ m : Nat, v = .int .i64 (m : Int) ∧ m ≤ K.size ∧ Hid (allL q K.data.toList = allL q (K.data.toList.drop m))) (fun v => K.size - (intOf v).toNat)
          case atStart => exact ⟨0, rfl, Nat.zero_le _, Lib.hid rfl⟩
          case round =>
            obtain ⟨m, rfl, hm, HA⟩ := hrel
            by_cases hltm : m < K.size
            · have hst := allL_step (q := q) (list_get K m hltm)
              have hqc : q (K[m]'hltm) = keyP (K[m]'hltm).toNat := by rw [← HQ.out]; rfl
              rw [keyP_eq] at hqc
              have hst2 := HA.out.trans hst
              rw [hqc] at hst2
              clear hst hqc
              have hparts : ((48 ≤ (K[m]'hltm).toNat ∧ (K[m]'hltm).toNat ≤ 57) ∨ (65 ≤ (K[m]'hltm).toNat ∧ (K[m]'hltm).toNat ≤ 90) ∨ (K[m]'hltm).toNat = 95) ∨ ((K[m]'hltm).toNat < 48 ∨ (58 ≤ (K[m]'hltm).toNat ∧ (K[m]'hltm).toNat ≤ 64) ∨ (91 ≤ (K[m]'hltm).toNat ∧ (K[m]'hltm).toNat ≤ 94) ∨ 96 ≤ (K[m]'hltm).toNat) := by omega
              rcases hparts with hp | hp
              · rcases hp with hp | hp | hp
                all_goals
                  rw [show decide ((65 ≤ (K[m]'hltm).toNat ∧ (K[m]'hltm).toNat ≤ 90) ∨ (48 ≤ (K[m]'hltm).toNat ∧ (K[m]'hltm).toNat ≤ 57) ∨ (K[m]'hltm).toNat = 95) = true from decide_eq_true (by omega), Bool.true_and] at hst2
                  have HS := Lib.hid hst2
                  clear hst2
                  first | have d1 : decide ((((K[m]'hltm).toNat : Nat) : Int) < 65) = true := decide_eq_true (by omega) | have d1 : decide ((((K[m]'hltm).toNat : Nat) : Int) < 65) = false := decide_eq_false (by omega)
                  first | have d2 : decide ((90 : Int) < (((K[m]'hltm).toNat : Nat) : Int)) = true := decide_eq_true (by omega) | have d2 : decide ((90 : Int) < (((K[m]'hltm).toNat : Nat) : Int)) = false := decide_eq_false (by omega)
                  first | have d3 : decide ((((K[m]'hltm).toNat : Nat) : Int) < 48) = true := decide_eq_true (by omega) | have d3 : decide ((((K[m]'hltm).toNat : Nat) : Int) < 48) = false := decide_eq_false (by omega)
                  first | have d4 : decide ((57 : Int) < (((K[m]'hltm).toNat : Nat) : Int)) = true := decide_eq_true (by omega) | have d4 : decide ((57 : Int) < (((K[m]'hltm).toNat : Nat) : Int)) = false := decide_eq_false (by omega)
                  first | have d5 : ((((K[m]'hltm).toNat : Nat) : Int) != 95) = true := bne_iff_ne.2 (by omega) | have d5 : ((((K[m]'hltm).toNat : Nat) : Int) != 95) = false := bne_eq_false_iff_eq.2 (by omega)
                  clear hp
                  go_wp2
                  go_round
                  case rel => exact ⟨m + 1, by go_num, by omega, HS⟩
                  case measure => simp [intOf]; omega
              · rcases hp with hp | hp | hp | hp
                all_goals
                  clear hst2
                  first | have d1 : decide ((((K[m]'hltm).toNat : Nat) : Int) < 65) = true := decide_eq_true (by omega) | have d1 : decide ((((K[m]'hltm).toNat : Nat) : Int) < 65) = false := decide_eq_false (by omega)
                  first | have d2 : decide ((90 : Int) < (((K[m]'hltm).toNat : Nat) : Int)) = true := decide_eq_true (by omega) | have d2 : decide ((90 : Int) < (((K[m]'hltm).toNat : Nat) : Int)) = false := decide_eq_false (by omega)
                  first | have d3 : decide ((((K[m]'hltm).toNat : Nat) : Int) < 48) = true := decide_eq_true (by omega) | have d3 : decide ((((K[m]'hltm).toNat : Nat) : Int) < 48) = false := decide_eq_false (by omega)
                  first | have d4 : decide ((57 : Int) < (((K[m]'hltm).toNat : Nat) : Int)) = true := decide_eq_true (by omega) | have d4 : decide ((57 : Int) < (((K[m]'hltm).toNat : Nat) : Int)) = false := decide_eq_false (by omega)
                  first | have d5 : ((((K[m]'hltm).toNat : Nat) : Int) != 95) = true := bne_iff_ne.2 (by omega) | have d5 : ((((K[m]'hltm).toNat : Nat) : Int) != 95) = false := bne_eq_false_iff_eq.2 (by omega)
                  clear hp
                  go_wp2
                  refine bodyPost_ret (v := keyV ⟨#[]⟩ 0 0 false) (by simp [results, Tryz.results13, go_sem, keyV, r0, r1]) rfl ⟨rfl, ?_⟩
                  exact (hB.setCell (by simp) _).setCell (by simp) _
            · exfalso
              have hmm : m = K.size := by omega
              have h1 := HA.out
              rw [HALL.out, hmm, ← HKL.out, allL_end] at h1
              cases h1

end Go.Proofs
