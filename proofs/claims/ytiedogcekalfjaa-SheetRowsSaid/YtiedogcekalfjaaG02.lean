/- words.seek and words.inside of this program, as contracts. Conditions: a part of a text; a class of signs that takes all of the high ones, or none. -/
import Derived.Test.YtiedogcekalfjaaG01
import Derived.Lib.TrimU
import Derived.Laws.AppendOwn
import Derived.Lib.QuietBelow
import Derived.RangeFuncRecord
import Derived.Test.YtiedogcekalfjaaProg
import Derived.WalkKit
import Derived.Lib.Hide
import Derived.Deep.QuietTactic
import Derived.BigQuiet
import Derived.Deep.LoopGhost
import Derived.Test.YtiedogcekalfjaaShelf
import Derived.Laws.RangeAny
import Derived.WalkLawsBesides
import Derived.RangeFuncNested
namespace Go.Wds
theorem extract_size' (s : ByteArray) {a b : Nat} (hab : a ≤ b) (hb : b ≤ s.size) : (s.extract a b).size = b - a := by
  simp [ByteArray.size_extract]; omega
theorem extract_at (s : ByteArray) {a b j : Nat} (hj : j < (s.extract a b).size) (h : a + j < s.size) : (s.extract a b)[j]'hj = s[a + j]'h := by
  rw [ByteArray.getElem_extract]
end Go.Wds
namespace Go.Proofs
open Go.RowKit Go.Shelf Go.Wds

set_option maxRecDepth 100000 in
set_option maxHeartbeats 1000000 in
theorem Try.seek_calls {v : Value} {p : Nat → Bool} (s : ByteArray) (a b : Nat) (w : World) (hab : a ≤ b) (hbs : b ≤ s.size) (hs : s.size ≤ 2000000) (hp : Flat p) (hv : IsClass v p w) :
    Calls Try.prog 51 #[.string s, .int .i64 (a : Int), .int .i64 (b : Int), v] w fun e w' => e = .returned (.int .i64 (seekL (ofB p) s.data.toList a b : Nat)) ∧ Below w.heap.size w w' := by
  obtain ⟨g, lb, rfl, eg, hcl⟩ := hv
  obtain ⟨t, ht⟩ : ∃ t, s.extract a b = t := ⟨_, rfl⟩
  have hts := extract_size' s hab hbs
  rw [ht] at hts
  have hta : ∀ j (hj : j < t.size), ∃ h : a + j < s.size, t[j]'hj = s[a + j]'h := fun j hj => ⟨by omega, by subst ht; exact extract_at s hj (by omega)⟩
  have HT := Lib.hid hts
  have HA := Lib.hid hta
  have HCL := Lib.hid hcl
  have htm : t.size ≤ 2000000 := by omega
  clear hts hta hcl
  have hn := fun (wr : World) (pos : Nat) (ty : TypeId) hk h => Lib.run_next_any_at (P := Try.prog) wr w.heap.size t pos ty hk h
  have hend := fun (wr : World) (pos : Nat) (ty : TypeId) hk h => Lib.run_next_end_at (P := Try.prog) wr w.heap.size t pos ty hk h
  go_enter Try.func51, Try.ntmps51
  go_wp2
  go_loopw [] (fun wr => ∃ pos : Nat, wr.heap[w.heap.size]? = some (.stringIter t pos) ∧ pos ≤ t.size ∧ (∀ j (hj : j < t.size), j < pos → ofB p (t[j]'hj) = false) ∧ Below w.heap.size w wr) (fun wr => t.size - wr.iterPos w.heap.size)
  case atStart => exact ⟨0, World.iter_heap w t 0, Nat.zero_le _, fun j hj h => by omega, (Below.refl _ w).alloc (Nat.le_refl _) _⟩
  case round =>
    clear ht
    obtain ⟨pos, hit, hpos, hno, hB⟩ := hrel
    by_cases hlt : pos < t.size
    · have hn' := fun ty => hn wr pos ty hit hlt
      obtain ⟨c1, c2, c3, c4⟩ := class_step hp t pos hlt
      have hle := Lib.rune_le t pos
      obtain ⟨R, hR⟩ : ∃ R, (Utf8.decode t pos).1 = R := ⟨_, rfl⟩
      obtain ⟨K, hK⟩ : ∃ K, (Utf8.decode t pos).2 = K := ⟨_, rfl⟩
      rw [hR] at c1 c4 hle
      rw [hK] at c2 c3 c4
      rw [hR, hK] at hn'
      clear hR hK
      have hit2 := Lib.iterAt_heap wr w.heap.size t pos (pos + K) hit
      have hB2 := Lib.below_iterAt hB (k := w.heap.size) (Nat.le_refl _) t (pos + K)
      obtain ⟨W, hWd⟩ : ∃ W, wr.iterAt w.heap.size t (pos + K) = W := ⟨_, rfl⟩
      rw [hWd] at hn' hit2 hB2
      have hltW : w.heap.size < W.heap.size := (Array.getElem?_eq_some_iff.1 hit2).1
      have hc := Lib.hid (HCL.out W R hle hB2)
      cases hpr : p R with
      | true =>
        rw [hpr] at hc c1
        have hsk : seekL (ofB p) s.data.toList a b = a + pos := by
          have hts := HT.out
          obtain ⟨hx, hx2⟩ := HA.out pos hlt
          refine seek_eq (by omega) (by omega) (fun j c h1 h2 h3 => ?_) (fun _ => ⟨_, list_get s (a + pos) hx, by rw [← hx2]; exact c1.symm⟩)
          obtain ⟨hy, hy2⟩ := HA.out (j - a) (by omega)
          have h4 := hno (j - a) (by omega) (by omega)
          rw [hy2] at h4
          rw [show a + (j - a) = j from by omega] at hy
          rw [list_get s j hy] at h3
          cases h3
          have e : a + (j - a) = j := by omega
          simpa only [e] using h4
        have hsum : IntKind.i64.wrap ((a : Int) + (pos : Int)) = (a : Int) + (pos : Int) := IntWalk.i64_in _ (by omega)
        have HS := Lib.hid hsk
        clear hpr c1 c4 hn hend hno hsk
        go_wp2_with (go_at_fn g; refine hc.out.mono ?_; rintro e w1 ⟨rfl, hb1⟩)
        go_ret
        rw [HS.out]
        exact ⟨rfl, hB2.trans (hb1.mono hB2.size)⟩
      | false =>
        rw [hpr] at hc
        have hno2 : ∀ j (hj : j < t.size), j < pos + K → ofB p (t[j]'hj) = false := fun j hj h1 => by
          by_cases h2 : j < pos
          · exact hno j hj h2
          · have := c4 hpr j (by omega) h1
            rwa [get_of t j hj] at this
        have HN := Lib.hid hno2
        clear hpr c1 c4 hn hend hno hno2
        go_wp2_with (go_at_fn g; refine hc.out.mono ?_; rintro e w1 ⟨rfl, hb1⟩)
        have hit3 := (hb1.block _ hltW).trans hit2
        go_roundw
        case rel => exact ⟨pos + K, hit3, c3, HN.out, hB2.trans (hb1.mono hB2.size)⟩
        case measure => simp [World.iterPos, hit, hit3]; omega
    · have he' := fun ty => hend wr pos ty hit hlt
      have hsk : seekL (ofB p) s.data.toList a b = b := by
        have hts := HT.out
        refine seek_eq hab (Nat.le_refl _) (fun j c h1 h2 h3 => ?_) (fun h => by omega)
        obtain ⟨hy, hy2⟩ := HA.out (j - a) (by omega)
        have h4 := hno (j - a) (by omega) (by omega)
        rw [hy2] at h4
        rw [show a + (j - a) = j from by omega] at hy
        rw [list_get s j hy] at h3
        cases h3
        have e : a + (j - a) = j := by omega
        simpa only [e] using h4
      have HS := Lib.hid hsk
      clear hn hend hno hsk
      go_wp2
      go_ret
      rw [HS.out]
      exact ⟨rfl, hB⟩
#print axioms Try.seek_calls

/-- Whether two numbers are the places of a part of n bytes. -/
def inB (n : Nat) (a b : Int) : Bool := decide (0 ≤ a ∧ a ≤ b ∧ b ≤ n)
set_option maxRecDepth 100000 in
theorem Try.inside_calls (s : ByteArray) (a b : Int) (w : World) :
    Calls Try.prog 48 #[.string s, .int .i64 a, .int .i64 b] w fun e w' => e = .returned (.bool (inB s.size a b)) ∧ w' = w := by
  by_cases h1 : 0 ≤ a
  · have d1 : decide (0 ≤ a) = true := decide_eq_true h1
    by_cases h2 : a ≤ b
    · have d2 : decide (a ≤ b) = true := decide_eq_true h2
      by_cases h3 : b ≤ s.size
      · have d3 : decide (b ≤ (s.size : Int)) = true := decide_eq_true h3
        have H := Lib.hid (show inB s.size a b = true from decide_eq_true ⟨h1, h2, h3⟩)
        clear h1 h2 h3
        go_enter Try.func48, Try.ntmps48
        go_wp2
        go_ret
        rw [H.out]; exact ⟨rfl, rfl⟩
      · have d3 : decide (b ≤ (s.size : Int)) = false := decide_eq_false h3
        have H := Lib.hid (show inB s.size a b = false from decide_eq_false fun h => h3 h.2.2)
        clear h1 h2 h3
        go_enter Try.func48, Try.ntmps48
        go_wp2
        go_ret
        rw [H.out]; exact ⟨rfl, rfl⟩
    · have d2 : decide (a ≤ b) = false := decide_eq_false h2
      have H := Lib.hid (show inB s.size a b = false from decide_eq_false fun h => h2 h.2.1)
      clear h1 h2
      go_enter Try.func48, Try.ntmps48
      go_wp2
      go_ret
      rw [H.out]; exact ⟨rfl, rfl⟩
  · have d1 : decide (0 ≤ a) = false := decide_eq_false h1
    have H := Lib.hid (show inB s.size a b = false from decide_eq_false fun h => h1 h.1)
    clear h1
    go_enter Try.func48, Try.ntmps48
    go_wp2
    go_ret
    rw [H.out]; exact ⟨rfl, rfl⟩
#print axioms Try.inside_calls
end Go.Proofs
/- Slices of words in this program, and entrepotlaw03.its and the document's own Same, as contracts. Conditions: lists of at most two million words. -/
namespace Go.Wds
def wordCells (ps : List (Nat × Nat)) : List Value := ps.flatMap fun p => [.int .i64 (p.1 : Int), .int .i64 (p.2 : Int)]
theorem wordCells_snoc (ps : List (Nat × Nat)) (a b : Nat) : wordCells (ps ++ [(a, b)]) = wordCells ps ++ [.int .i64 (a : Int), .int .i64 (b : Int)] := by simp [wordCells]
theorem take_get {α : Type} {l : List α} {k : Nat} {x : α} (h : l[k]? = some x) : l.take (k + 1) = l.take k ++ [x] := by
  obtain ⟨hk, rfl⟩ := List.getElem?_eq_some_iff.1 h
  rw [List.take_succ_eq_append_getElem hk]
theorem wordCells_get : ∀ {ps : List (Nat × Nat)} {i a b : Nat}, ps[i]? = some (a, b) →
    (wordCells ps)[i * 2]? = some (.int .i64 (a : Nat)) ∧ (wordCells ps)[i * 2 + 1]? = some (.int .i64 (b : Nat))
  | [], i, a, b, h => by simp at h
  | p :: ps, 0, a, b, h => by
    have e : p = (a, b) := by simpa using h
    subst e
    exact ⟨rfl, rfl⟩
  | p :: ps, i + 1, a, b, h => by
    have h' : ps[i]? = some (a, b) := by simpa using h
    have ih := wordCells_get h'
    have e : ∀ j, (wordCells (p :: ps))[(i + 1) * 2 + j]? = (wordCells ps)[i * 2 + j]? := fun j => by
      rw [show (i + 1) * 2 + j = (i * 2 + j) + 1 + 1 from by omega]; rfl
    exact ⟨(e 0).trans ih.1, (e 1).trans ih.2⟩
end Go.Wds
namespace Go
open Go.RowKit
theorem ownsRow_base {w : World} {base base' : Nat} {e : TypeId} {size : Nat} {v : Value} {k : Nat} {xs : List Value} (h : w.ownsRow base e size v k xs) (hb : base' ≤ base) : w.ownsRow base' e size v k xs := by
  refine ⟨h.1, h.2.imp id ?_⟩
  rintro ⟨g, cap, cur, h1, h2, h3⟩
  exact ⟨g, cap, cur, h1, Nat.le_trans hb h2, h3⟩
theorem grown_below {n₀ : Nat} {w wr w1 : World} {tmp : Obj} {v : Value} {e : TypeId} {size k : Nat} {xs : List Value} (hB : Below n₀ w wr) (hn : n₀ ≤ wr.heap.size) (hown : wr.ownsRow n₀ e size v k xs) (hgrow : (wr.alloc tmp).grownBy w1 v.ownBlock) : Below n₀ w w1 :=
  (hB.alloc hn tmp).grown hgrow (by simp; omega) (fun j e => (hown.lt j e).1)
end Go
namespace Go.Proofs
open Go.RowKit Go.Shelf Go.Wds Go.Sort

theorem Try.info80 : (Try.prog.info? 80).map (fun i => (i.zero, i.size, i.bytes)) = some (some (.agg #[.int .i64 0, .int .i64 0]), 2, 16) := by kernel_rfl
theorem Try.info79 : (Try.prog.info? 79).map (fun i => (i.zero, i.size, i.bytes)) = some (some (.agg #[.int .i64 0, .int .i64 0]), 2, 16) := by kernel_rfl
theorem cells_new (W : World) (c : Array Value) (t : TypeId) : ∀ (j : Nat) (u : Value), c.toList[j]? = some u → (W.alloc (.cells c t)).cell? ((⟨W.heap.size, 0, none⟩ : Addr).add j) = some u := by
  intro j u h
  have e := World.alloc_heap_new W (.cells c t)
  have hb : ((⟨W.heap.size, 0, none⟩ : Addr).add j) = ⟨W.heap.size, j, none⟩ := by
    unfold Addr.add
    split
    · rename_i h0; rw [h0]
    · simp
  rw [hb]
  unfold World.cell?
  simp only [e]
  simpa using h
theorem owns_empty2 (w : World) (e : TypeId) : (w.alloc (.cells #[] e)).ownsRow w.heap.size e 2 (.slice (some ⟨w.heap.size, 0, none⟩) 0 0) 0 [] :=
  ⟨rfl, .inr ⟨w.heap.size, 0, #[], rfl, Nat.le_refl _, World.alloc_heap_new w _, Nat.le_refl _, Nat.zero_le _, rfl, rfl⟩⟩

/-- v is a slice that holds the words ps in W. -/
def HasWords (W : World) (v : Value) (ps : List (Nat × Nat)) : Prop :=
  ∃ (ao : Option Addr) (cap : Nat), v = .slice ao ps.length cap ∧ (∀ (i a b : Nat), ps[i]? = some (a, b) → ∃ g, ao = some ⟨g, 0, none⟩ ∧ g < W.heap.size ∧
    W.cell? ⟨g, i * 2, none⟩ = some (.int .i64 (a : Nat)) ∧ W.cell? ⟨g, i * 2 + 1, none⟩ = some (.int .i64 (b : Nat))) ∧ ps.length ≤ cap
theorem hasWords_of_owns {W : World} {base : Nat} {e : TypeId} {v : Value} {ps : List (Nat × Nat)} (h : W.ownsRow base e 2 v ps.length (wordCells ps)) : HasWords W v ps := by
  rcases h.2 with ⟨rfl, h0⟩ | ⟨g, cap, cur, rfl, h1, h2, hnc, _⟩
  · refine ⟨none, 0, by rw [h0], fun i a b hi => ?_, by omega⟩
    have := (List.getElem?_eq_some_iff.1 hi).1
    omega
  · refine ⟨_, cap, rfl, fun i a b hi => ⟨g, rfl, (Array.getElem?_eq_some_iff.1 h2).1, ?_⟩, hnc⟩
    have hc := World.ownsRow.cells h (g := g) rfl
    have hl := wordCells_get hi
    have e : ∀ j, ((⟨g, 0, none⟩ : Addr).add j) = ⟨g, j, none⟩ := fun j => by
      unfold Addr.add
      split
      · rename_i h0; rw [h0]
      · simp
    have h3 := hc _ _ hl.1
    have h4 := hc _ _ hl.2
    rw [e] at h3 h4
    exact ⟨h3, h4⟩
theorem HasWords.below {W W' : World} {v : Value} {ps : List (Nat × Nat)} (h : HasWords W v ps) {n₀ : Nat} (hb : Below n₀ W W') (hn : W.heap.size ≤ n₀) : HasWords W' v ps := by
  obtain ⟨ao, cap, rfl, h, hc⟩ := h
  refine ⟨ao, cap, rfl, fun i a b hi => ?_, hc⟩
  obtain ⟨g, h1, h2, h3, h4⟩ := h i a b hi
  have := hb.size
  exact ⟨g, h1, by omega, (hb.cell (p := ⟨g, _, none⟩) (by simp; omega)).trans h3, (hb.cell (p := ⟨g, _, none⟩) (by simp; omega)).trans h4⟩
theorem HasWords.later {W W' : World} {v : Value} {ps : List (Nat × Nat)} (h : HasWords W v ps) (hb : Below W.heap.size W W') : HasWords W' v ps := h.below hb (Nat.le_refl _)
theorem HasWords.nil (W : World) : HasWords W (.slice none 0 0) [] := ⟨none, 0, rfl, fun i a b hi => by simp at hi, Nat.le_refl _⟩
theorem HasWords.at {W : World} {g : Nat} {n cap : Nat} {ps : List (Nat × Nat)} (h : HasWords W (.slice (some ⟨g, 0, none⟩) n cap) ps) {i a b : Nat} (hi : ps[i]? = some (a, b)) :
    g < W.heap.size ∧ W.cell? ⟨g, i * 2, none⟩ = some (.int .i64 (a : Nat)) ∧ W.cell? ⟨g, i * 2 + 1, none⟩ = some (.int .i64 (b : Nat)) := by
  obtain ⟨ao, cap', e, h, _⟩ := h
  obtain ⟨g', h1, h2, h3, h4⟩ := h i a b hi
  cases e
  cases h1
  exact ⟨h2, h3, h4⟩
theorem HasWords.split {W : World} {v : Value} {ps : List (Nat × Nat)} (h : HasWords W v ps) : (ps = [] ∧ ∃ ao cap, v = .slice ao 0 cap) ∨ (0 < ps.length ∧ ∃ g cap, v = .slice (some ⟨g, 0, none⟩) ps.length cap ∧ g < W.heap.size) := by
  obtain ⟨ao, cap, rfl, h, _⟩ := h
  cases ps with
  | nil => exact .inl ⟨rfl, ao, cap, rfl⟩
  | cons p ps =>
    obtain ⟨a, b⟩ := p
    obtain ⟨g, rfl, h1, _⟩ := h 0 a b rfl
    exact .inr ⟨by simp, g, cap, rfl, h1⟩


set_option maxRecDepth 100000 in
set_option maxHeartbeats 1000000 in
theorem Try.Same_calls (v u : Value) (ps : List (Nat × Nat)) (w : World) (hlen : ps.length ≤ 2000000) (hv : HasWords w v ps) (hu : HasWords w u ps) :
    Calls Try.prog 31 #[v, u] w fun e w' => e = .returned (.bool true) ∧ Below w.heap.size w w' := by
  have hmx : Try.prog.follows .mixedOrders = true := by kernel_rfl
  rcases hv.split with ⟨rfl, ao, cap, rfl⟩ | ⟨hpos, g, cap, rfl, hg⟩
  · rcases hu.split with ⟨_, ao', cap', rfl⟩ | ⟨hpos, _⟩
    · clear hv hu hlen
      go_enter Try.func31, Try.ntmps31
      go_wp2
      go_loopw [5] (fun i wr => i = .int .i64 0 ∧ Below w.heap.size w wr) (fun _ _ => 0)
      case atStart => exact ⟨rfl, Below.refl _ w⟩
      case round =>
        obtain ⟨rfl, hB⟩ := hrel
        go_wp2
        go_ret
        exact ⟨rfl, hB⟩
    · simp at hpos
  · rcases hu.split with ⟨rfl, _⟩ | ⟨_, g', cap', rfl, hg'⟩
    · simp at hpos
    · have HV := Lib.hid hv
      have HU := Lib.hid hu
      clear hv hu
      go_enter Try.func31, Try.ntmps31
      go_wp2
      go_loopw [5] (fun i wr => ∃ k : Nat, k ≤ ps.length ∧ i = .int .i64 (k : Int) ∧ Below w.heap.size w wr) (fun i _ => ps.length - (intOf i).toNat)
      case atStart => exact ⟨0, Nat.zero_le _, rfl, Below.refl _ w⟩
      case round =>
        obtain ⟨k, hk, rfl, hB⟩ := hrel
        by_cases hlt : k < ps.length
        · obtain ⟨⟨a, b⟩, hp⟩ : ∃ p, ps[k]? = some p := ⟨_, List.getElem?_eq_getElem hlt⟩
          obtain ⟨_, x0, x1⟩ := HV.out.at hp
          obtain ⟨_, y0, y1⟩ := HU.out.at hp
          replace x0 := (hB.cell (p := ⟨g, k * 2, none⟩) hg).trans x0
          replace x1 := (hB.cell (p := ⟨g, k * 2 + 1, none⟩) hg).trans x1
          replace y0 := (hB.cell (p := ⟨g', k * 2, none⟩) hg').trans y0
          replace y1 := (hB.cell (p := ⟨g', k * 2 + 1, none⟩) hg').trans y1
          clear hp
          go_wp2
          go_quiet (fail)
          go_wp2
          go_roundw
          case rel => exact ⟨k + 1, by omega, by go_num, hB.trans ⟨rfl, rfl, rfl, Nat.le_refl _, fun _ _ => rfl⟩⟩
          case measure => simp [intOf]; omega
        · have hkk : k = ps.length := by omega
          subst hkk
          go_wp2
          go_ret
          exact ⟨rfl, hB⟩
#print axioms Try.Same_calls
end Go.Proofs
/- words.Text, and the document's own places, Text and blank, of this program, as contracts. No conditions. -/
namespace Go.Wds
/-- The bytes of a part; none, if it is none. -/
def textI (s : ByteArray) (a b : Int) : ByteArray := if Go.Proofs.inB s.size a b = true then s.extract a.toNat b.toNat else ⟨#[]⟩
end Go.Wds
namespace Go.Proofs
open Go.RowKit Go.Shelf Go.Wds

theorem inB_nat {n a b : Nat} (hab : a ≤ b) (hbn : b ≤ n) : inB n (a : Int) (b : Int) = true := decide_eq_true ⟨by omega, by omega, by omega⟩
theorem inB_out {n : Nat} {a b : Int} (h : inB n a b = true) : ∃ x y : Nat, a = (x : Int) ∧ b = (y : Int) ∧ x ≤ y ∧ y ≤ n := by
  have h' := of_decide_eq_true h
  exact ⟨a.toNat, b.toNat, by omega, by omega, by omega, by omega⟩
theorem textI_nat {s : ByteArray} {a b : Nat} (hab : a ≤ b) (hbn : b ≤ s.size) : textI s (a : Int) (b : Int) = s.extract a b := by
  unfold textI; rw [if_pos (inB_nat hab hbn)]; rfl

set_option maxRecDepth 100000 in
theorem Try.places_calls (s : ByteArray) (a b : Int) (w : World) :
    Calls Try.prog 54 #[.string s, .int .i64 a, .int .i64 b] w fun e w' => e = .returned (.bool (inB s.size a b)) ∧ w' = w := by
  by_cases h1 : 0 ≤ a
  · have d1 : decide (0 ≤ a) = true := decide_eq_true h1
    by_cases h2 : a ≤ b
    · have d2 : decide (a ≤ b) = true := decide_eq_true h2
      by_cases h3 : b ≤ s.size
      · have d3 : decide (b ≤ (s.size : Int)) = true := decide_eq_true h3
        have H := Lib.hid (show inB s.size a b = true from decide_eq_true ⟨h1, h2, h3⟩)
        clear h1 h2 h3
        go_enter Try.func54, Try.ntmps54
        go_wp2
        go_ret
        rw [H.out]; exact ⟨rfl, rfl⟩
      · have d3 : decide (b ≤ (s.size : Int)) = false := decide_eq_false h3
        have H := Lib.hid (show inB s.size a b = false from decide_eq_false fun h => h3 h.2.2)
        clear h1 h2 h3
        go_enter Try.func54, Try.ntmps54
        go_wp2
        go_ret
        rw [H.out]; exact ⟨rfl, rfl⟩
    · have d2 : decide (a ≤ b) = false := decide_eq_false h2
      have H := Lib.hid (show inB s.size a b = false from decide_eq_false fun h => h2 h.2.1)
      clear h1 h2
      go_enter Try.func54, Try.ntmps54
      go_wp2
      go_ret
      rw [H.out]; exact ⟨rfl, rfl⟩
  · have d1 : decide (0 ≤ a) = false := decide_eq_false h1
    have H := Lib.hid (show inB s.size a b = false from decide_eq_false fun h => h1 h.1)
    clear h1
    go_enter Try.func54, Try.ntmps54
    go_wp2
    go_ret
    rw [H.out]; exact ⟨rfl, rfl⟩

set_option maxRecDepth 100000 in
theorem Try.Text_calls (s : ByteArray) (a b : Int) (w : World) :
    Calls Try.prog 32 #[.string s, .agg #[.int .i64 a, .int .i64 b]] w fun e w' => e = .returned (.string (textI s a b)) ∧ Below w.heap.size w w' := by
  cases h : inB s.size a b with
  | false =>
    have hc := Lib.hid fun w => Try.inside_calls s a b w
    rw [h] at hc
    have H := Lib.hid (show textI s a b = ⟨#[]⟩ by unfold textI; rw [h]; rfl)
    clear h
    go_enter Try.func32, Try.ntmps32
    go_wp2_with (go_at_call 48; (with_reducible refine (hc.out _).mono ?_); rintro e w1 ⟨rfl, rfl⟩)
    go_ret
    rw [H.out]
    exact ⟨rfl, (Below.refl _ _).alloc (Nat.le_refl _) _⟩
  | true =>
    obtain ⟨x, y, rfl, rfl, hxy, hy⟩ := inB_out h
    have hc := Lib.hid fun w => Try.inside_calls s (x : Int) (y : Int) w
    rw [h] at hc
    have H := Lib.hid (textI_nat (s := s) hxy hy)
    clear h
    go_enter Try.func32, Try.ntmps32
    go_wp2_with (go_at_call 48; (with_reducible refine (hc.out _).mono ?_); rintro e w1 ⟨rfl, rfl⟩)
    go_ret
    rw [H.out]
    exact ⟨rfl, (Below.refl _ _).alloc (Nat.le_refl _) _⟩
set_option maxRecDepth 100000 in
theorem Try.rText_calls (s : ByteArray) (a b : Int) (w : World) :
    Calls Try.prog 34 #[.string s, .agg #[.int .i64 a, .int .i64 b]] w fun e w' => e = .returned (.string (textI s a b)) ∧ Below w.heap.size w w' := by
  cases h : inB s.size a b with
  | false =>
    have hc := Lib.hid fun w => Try.places_calls s a b w
    rw [h] at hc
    have H := Lib.hid (show textI s a b = ⟨#[]⟩ by unfold textI; rw [h]; rfl)
    clear h
    go_enter Try.func34, Try.ntmps34
    go_wp2_with (go_at_call 54; (with_reducible refine (hc.out _).mono ?_); rintro e w1 ⟨rfl, rfl⟩)
    go_ret
    rw [H.out]
    exact ⟨rfl, (Below.refl _ _).alloc (Nat.le_refl _) _⟩
  | true =>
    obtain ⟨x, y, rfl, rfl, hxy, hy⟩ := inB_out h
    have hc := Lib.hid fun w => Try.places_calls s (x : Int) (y : Int) w
    rw [h] at hc
    have H := Lib.hid (textI_nat (s := s) hxy hy)
    clear h
    go_enter Try.func34, Try.ntmps34
    go_wp2_with (go_at_call 54; (with_reducible refine (hc.out _).mono ?_); rintro e w1 ⟨rfl, rfl⟩)
    go_ret
    rw [H.out]
    exact ⟨rfl, (Below.refl _ _).alloc (Nat.le_refl _) _⟩

set_option maxRecDepth 100000 in
theorem Try.blank_calls (c : UInt8) (w : World) :
    Calls Try.prog 55 #[.int .u8 (c.toNat : Int)] w fun e w' => e = .returned (.bool (blk c)) ∧ w' = w := by
  by_cases h1 : c = 32
  · subst h1
    go_enter Try.func55, Try.ntmps55
    go_wp2
    go_ret
    exact ⟨rfl, rfl⟩
  · by_cases h2 : c = 9
    · subst h2
      go_enter Try.func55, Try.ntmps55
      go_wp2
      go_ret
      exact ⟨rfl, rfl⟩
    · have d1 : ((c.toNat : Int) == 32) = false := by
        rw [beq_eq_false_iff_ne]
        intro e
        exact h1 (UInt8.toNat_inj.1 (by have e' : c.toNat = 32 := by omega
                                        exact e'))
      have d2 : ((c.toNat : Int) == 9) = false := by
        rw [beq_eq_false_iff_ne]
        intro e
        exact h2 (UInt8.toNat_inj.1 (by have e' : c.toNat = 9 := by omega
                                        exact e'))
      have H := Lib.hid (show blk c = false by unfold blk; simp [h1, h2])
      clear h1 h2
      go_enter Try.func55, Try.ntmps55
      go_wp2
      go_ret
      rw [H.out]; exact ⟨rfl, rfl⟩
#print axioms Try.Text_calls
#print axioms Try.rText_calls
#print axioms Try.blank_calls
end Go.Proofs
/- Plain facts on how words are told one by one; no program. -/
namespace Go.Wds
theorem ink_not (c : UInt8) : ink c = !blk c := rfl
/-- k is where a word of the part begins, or its end. -/
def Ready (l : List UInt8) (a b k : Nat) : Prop := k < b → (k = a ∨ ∀ x, l[k - 1]? = some x → blk x = true) ∧ ∀ x, l[k]? = some x → blk x = false
theorem fields_start {l : List UInt8} {a b : Nat} (hab : a ≤ b) : a ≤ seekL ink l a b ∧ seekL ink l a b ≤ b ∧ wordsL l a (seekL ink l a b) = [] ∧ Ready l a b (seekL ink l a b) := by
  have h1 := seek_ge ink l a b
  have h2 := seek_le (q := ink) (l := l) hab
  have hbl : ∀ j x, a ≤ j → j < seekL ink l a b → l[j]? = some x → blk x = true := fun j x h3 h4 h5 => by
    have := seek_none h3 h4 h5
    rw [ink_not] at this
    simpa using this
  refine ⟨h1, h2, ?_, fun hk => ⟨?_, fun x hx => ?_⟩⟩
  · rw [words_blank (Nat.le_refl a) h1 hbl, words_nil]
  · by_cases e : seekL ink l a b = a
    · exact .inl e
    · exact .inr fun x hx => hbl _ x (by omega) (by omega) hx
  · obtain ⟨c, hc, hq⟩ := seek_at hab hk
    rw [hc] at hx
    cases hx
    rw [ink_not] at hq
    simpa using hq
theorem fields_step {l : List UInt8} {a b k : Nat} (hak : a ≤ k) (hk : k < b) (hb : b ≤ l.length) (hr : Ready l a b k) :
    k < seekL blk l k b ∧ seekL blk l k b ≤ b ∧ seekL blk l k b ≤ seekL ink l (seekL blk l k b) b ∧ seekL ink l (seekL blk l k b) b ≤ b ∧
    wordsL l a (seekL ink l (seekL blk l k b) b) = wordsL l a k ++ [(k, seekL blk l k b)] ∧ Ready l a b (seekL ink l (seekL blk l k b) b) := by
  obtain ⟨r1, r2⟩ := hr hk
  have h1 := seek_ge blk l k b
  have h2 := seek_le (q := blk) (l := l) (Nat.le_of_lt hk)
  have hn : ∀ j x, k ≤ j → j < seekL blk l k b → l[j]? = some x → blk x = false := fun j x h3 h4 h5 => seek_none h3 h4 h5
  have hlt : k < seekL blk l k b := by
    rcases Nat.lt_or_ge k (seekL blk l k b) with h | h
    · exact h
    · have e : seekL blk l k b = k := by omega
      obtain ⟨c, hc, hq⟩ := seek_at (q := blk) (l := l) (Nat.le_of_lt hk) (by omega)
      rw [e] at hc
      rw [r2 c hc] at hq
      cases hq
  have hat : seekL blk l k b < b → ∃ c, l[seekL blk l k b]? = some c ∧ blk c = true := fun h => seek_at (Nat.le_of_lt hk) h
  generalize seekL blk l k b = e at *
  have h3 := seek_ge ink l e b
  have h4 := seek_le (q := ink) (l := l) h2
  have hbl : ∀ j x, e ≤ j → j < seekL ink l e b → l[j]? = some x → blk x = true := fun j x h5 h6 h7 => by
    have := seek_none h5 h6 h7
    rw [ink_not] at this
    simpa using this
  refine ⟨hlt, h2, h3, h4, ?_, fun hk' => ?_⟩
  · rw [words_blank (by omega) h3 hbl, words_word hak hlt (by omega) r1 hn]
  · obtain ⟨c, hc, hq⟩ := seek_at (q := ink) (l := l) h2 hk'
    refine ⟨.inr fun x hx => ?_, fun x hx => ?_⟩
    · by_cases h5 : seekL ink l e b = e
      · obtain ⟨c', hc', hq'⟩ := hat (by omega)
        rw [h5, hc'] at hc
        cases hc
        rw [ink_not, hq'] at hq
        cases hq
      · exact hbl _ x (by omega) (by omega) hx
    · rw [hc] at hx
      cases hx
      rw [ink_not] at hq
      simpa using hq
end Go.Wds
/- words.Fields of this program, as a contract. Conditions: a text of at most two million bytes. -/
namespace Go.Wds
def sBlanks : ByteArray := ⟨#[32, 9]⟩
theorem low_blanks : Low sBlanks := by unfold Low; decide
theorem flat_has {s : ByteArray} (h : Low s) : Flat (has s) := fun r hr => by rw [has_high h hr, has_high h (Nat.le_refl _)]
theorem flat_not {p : Nat → Bool} (h : Flat p) : Flat (fun x => !p x) := fun r hr => by show (!p r) = !p 128; rw [h r hr]
theorem of_blanks : ofB (has sBlanks) = blk := by
  funext c
  have h : ∀ n : Nat, has sBlanks n = (n == 32 || n == 9) := fun n => by
    show ((32 == n) || ((9 == n) || false)) = _
    rw [Bool.or_false, Bool.eq_iff_iff]
    simp only [Bool.or_eq_true, beq_iff_eq]
    omega
  unfold ofB blk
  rw [h, Bool.eq_iff_iff]
  simp only [Bool.or_eq_true, beq_iff_eq, ← UInt8.toNat_inj]
  rfl
theorem of_ink : ofB (fun x => !has sBlanks x) = ink := by
  funext c
  show (!ofB (has sBlanks) c) = !blk c
  rw [of_blanks]
/-- The words of a part of a text; none, if it is none. -/
def fieldsI (s : ByteArray) (a b : Int) : List (Nat × Nat) := if Go.Proofs.inB s.size a b = true then wordsL s.data.toList a.toNat b.toNat else []
theorem fieldsI_len (s : ByteArray) (a b : Int) : (fieldsI s a b).length ≤ s.size := by
  unfold fieldsI
  split
  · rename_i h
    have h' := of_decide_eq_true h
    have := words_len s.data.toList a.toNat b.toNat
    omega
  · simp
end Go.Wds
namespace Go.Proofs
open Go.RowKit Go.Shelf Go.Wds

theorem Try.blanks_calls (w : World) : Calls Try.prog 49 #[.string { data := #[32, 9] }] w fun e w' => ∃ v, e = .returned v ∧ IsClass v (has sBlanks) w' ∧ Below w.heap.size w w' := Try.oneOf_calls sBlanks w low_blanks
theorem Try.seekBlank {v : Value} (s : ByteArray) (a b : Nat) (w : World) (hab : a ≤ b) (hbs : b ≤ s.size) (hs : s.size ≤ 2000000) (hv : IsClass v (has sBlanks) w) :
    Calls Try.prog 51 #[.string s, .int .i64 (a : Int), .int .i64 (b : Int), v] w fun e w' => e = .returned (.int .i64 (seekL blk s.data.toList a b : Nat)) ∧ Below w.heap.size w w' := by
  have := Try.seek_calls s a b w hab hbs hs (flat_has low_blanks) hv
  rwa [of_blanks] at this
theorem Try.seekInk {v : Value} (s : ByteArray) (a b : Nat) (w : World) (hab : a ≤ b) (hbs : b ≤ s.size) (hs : s.size ≤ 2000000) (hv : IsClass v (fun x => !has sBlanks x) w) :
    Calls Try.prog 51 #[.string s, .int .i64 (a : Int), .int .i64 (b : Int), v] w fun e w' => e = .returned (.int .i64 (seekL ink s.data.toList a b : Nat)) ∧ Below w.heap.size w w' := by
  have := Try.seek_calls s a b w hab hbs hs (flat_not (flat_has low_blanks)) hv
  rwa [of_ink] at this

set_option maxRecDepth 100000 in
set_option maxHeartbeats 2000000 in
theorem Try.Fields_calls (s : ByteArray) (a b : Int) (w : World) (hs : s.size ≤ 2000000) :
    Calls Try.prog 28 #[.string s, .int .i64 a, .int .i64 b] w fun e w' => ∃ v, e = .returned v ∧ HasWords w' v (fieldsI s a b) ∧ Below w.heap.size w w' := by
  cases h : inB s.size a b with
  | false =>
    have hc := Lib.hid fun w => Try.inside_calls s a b w
    rw [h] at hc
    have H := Lib.hid (show fieldsI s a b = [] by unfold fieldsI; rw [h]; rfl)
    clear h
    go_enter Try.func28, Try.ntmps28
    go_wp2_with (go_at_call 48; (with_reducible refine (hc.out _).mono ?_); rintro e w1 ⟨rfl, rfl⟩)
    go_ret
    rw [H.out]
    exact ⟨_, rfl, HasWords.nil _, Below.refl _ _⟩
  | true =>
    obtain ⟨x, y, rfl, rfl, hxy, hy⟩ := inB_out h
    have hc := Lib.hid fun w => Try.inside_calls s (x : Int) (y : Int) w
    have H := Lib.hid (show fieldsI s (x : Int) (y : Int) = wordsL s.data.toList x y by unfold fieldsI; rw [if_pos h]; rfl)
    rw [h] at hc
    clear h
    obtain ⟨i0, hi, hz0, hz1, hz2⟩ := info_parts Try.info80
    have HI := Lib.hid hi
    have HL := Lib.hid (show s.data.toList.length = s.size by simp)
    clear hi
    obtain ⟨st1, st2, st3, st4⟩ := fields_start (l := s.data.toList) hxy
    have ST3 := Lib.hid st3
    have ST4 := Lib.hid st4
    clear st3 st4
    go_enter Try.func28, Try.ntmps28
    go_wp2_with (go_at_call 48; (with_reducible refine (hc.out _).mono ?_); rintro e w1 ⟨rfl, rfl⟩)
    refine (Try.blanks_calls _).mono ?_
    rintro e w2 ⟨vb, rfl, hvb, hb2⟩
    have HB := Lib.hid hvb
    clear hvb
    go_wp2_with (go_at_call 50; (with_reducible refine (Try.not_calls HB.out).mono ?_); rintro e w3 ⟨vi, rfl, hvi, hb3⟩)
    have HI2 := Lib.hid hvi
    clear hvi
    have B3 : Below w1.heap.size w1 w3 := hb2.trans (hb3.mono hb2.size)
    have HB3 := Lib.hid (HB.out.later hb3)
    clear HB hb2 hb3
    go_wp2_with (go_at_call 51; (with_reducible refine (Try.seekInk s x y w3 hxy hy hs HI2.out).mono ?_); rintro e w4 ⟨rfl, hb4⟩)
    have B4 : Below w1.heap.size w1 w4 := B3.trans (hb4.mono B3.size)
    have HB4 := Lib.hid (HB3.out.later hb4)
    have HI4 := Lib.hid (HI2.out.later hb4)
    clear HB3 HI2 B3 hb4
    go_loopw [9, 10] (fun v k wr => ∃ n : Nat, k = .int .i64 (n : Int) ∧ x ≤ n ∧ n ≤ y ∧ Ready s.data.toList x y n ∧ wr.ownsRow w4.heap.size 80 2 v (wordsL s.data.toList x n).length (wordCells (wordsL s.data.toList x n)) ∧ Below w4.heap.size w4 wr) (fun _ k _ => y - (intOf k).toNat)
    case atStart => exact ⟨_, rfl, st1, st2, ST4.out, by rw [ST3.out]; exact World.ownsRow_nil _ _ _ _, Below.refl _ _⟩
    case round =>
      obtain ⟨n, rfl, hxn, hny, hr, hown, hB⟩ := hrel
      by_cases hlt : n < y
      · obtain ⟨e1, e2, e3, e4, e5, e6⟩ := fields_step hxn hlt (by rw [HL.out]; exact hy) hr
        have hwl := words_len s.data.toList x n
        obtain ⟨m, hm⟩ : ∃ m, seekL blk s.data.toList n y = m := ⟨_, rfl⟩
        rw [hm] at e1 e2 e3 e4 e5 e6
        obtain ⟨o, ho⟩ : ∃ o, seekL ink s.data.toList m y = o := ⟨_, rfl⟩
        rw [ho] at e3 e4 e5 e6
        have C1 := Lib.hid (Try.seekBlank s n y wr (by omega) hy hs (HB4.out.later hB))
        have C2 := Lib.hid fun W (h : Below w4.heap.size w4 W) => Try.seekInk s m y W e2 hy hs (HI4.out.later h)
        rw [hm] at C1
        rw [ho] at C2
        have E5 := Lib.hid e5
        have E6 := Lib.hid e6
        have hB1 : w4.heap.size ≤ wr.heap.size := hB.size
        have hml : (wordsL s.data.toList x n).length + 1 ≤ maxLen := by unfold maxLen; omega
        have hml2 : ((wordsL s.data.toList x n).length + 1) * 16 ≤ 140737488355328 := by omega
        clear hm ho e5 e6 hr hwl
        go_wp2_with (fail)
        refine C1.out.mono ?_
        rintro e W1 ⟨rfl, hb1⟩
        have hown1 := ownsRow_below hown hb1 (Nat.le_refl _)
        have hB2 : Below w4.heap.size w4 W1 := hB.trans (hb1.mono hB1)
        have hB3 : w4.heap.size ≤ W1.heap.size := hB2.size
        clear hown hB hb1 C1
        go_wp2_with (at_builtin; refine wpList_append_own _ rfl _ _ 30 rfl w4.heap.size 80 i0 (.agg #[.int .i64 0, .int .i64 0]) 2 16 Try.underlying30 HI.out hz0 hz1 hz2 rfl (by decide) _ _ _ rfl (hown1.alloc _) ⟨W1.heap.size, 0, none⟩ 1 1 [.int .i64 (n : Nat), .int .i64 (m : Nat)] rfl rfl (cells_new W1 #[.int .i64 (n : Nat), .int .i64 (m : Nat)] 80) (by simp [Value.oneCell']) hml hml2 (by simp; omega) ?_; intro v' W2 hown' hgrow _)
        have hB4 := grown_below hB2 hB3 hown1 hgrow
        refine (C2.out _ hB4).mono ?_
        rintro e W3 ⟨rfl, hb3⟩
        have hown2 := ownsRow_below hown' hb3 (Nat.le_refl _)
        have hB5 : Below w4.heap.size w4 W3 := hB4.trans (hb3.mono hB4.size)
        clear hown' hgrow hown1 hB2 hb3 C2
        go_wp2
        go_roundw
        case rel => exact ⟨o, rfl, by omega, by omega, E6.out, by rw [E5.out, wordCells_snoc, List.length_append]; exact hown2, hB5⟩
        case measure => simp [intOf]; omega
      · have hny2 : n = y := by omega
        subst hny2
        have HO := Lib.hid (hasWords_of_owns hown)
        clear hown hr
        go_wp2
        go_ret
        rw [H.out]
        exact ⟨_, rfl, HO.out, B4.trans (hB.mono B4.size)⟩
#print axioms Try.Fields_calls
end Go.Proofs
/- Small functions of package fixed (and of the statements' own packages): digits, tens, bounds. Conditions: those that each theorem names. -/
namespace Go.Fx
/-- Is it a decimal digit? -/
def digB (b : Int) : Bool := decide (48 ≤ b) && decide (b ≤ 57)
theorem digB_yes {b : Int} (h1 : 48 ≤ b) (h2 : b ≤ 57) : digB b = true := by simp [digB, h1, h2]
theorem digB_low {b : Int} (h1 : b < 48) : digB b = false := by simp [digB]; omega
theorem digB_high {b : Int} (h1 : 57 < b) : digB b = false := by simp [digB]; omega
/-- Is it a number of the size that is told? -/
def fitB (m : Int) : Bool := decide (-100000000 ≤ m) && decide (m ≤ 100000000)
/-- Is it a number of which something is promised? -/
def mayB (m s : Int) : Bool := decide (0 ≤ s) && decide (s ≤ 6) && decide (-1000000000000 ≤ m) && decide (m ≤ 1000000000000)
end Go.Fx
namespace Go.Proofs
open Go.RowKit Go.Fx
attribute [local go_sem] Oper.semAt_some

theorem ret_int {k : IntKind} {a b : Int} (h : a = b) : Ending.returned (.int k a) = .returned (.int k b) := by rw [h]
theorem ret_bool {a b : Bool} (h : a = b) : Ending.returned (.bool a) = .returned (.bool b) := by rw [h]

theorem Try.digit_any (b : Int) (w : World) :
    Calls Try.prog 83 #[.int .u8 b] w fun e w' => e = .returned (.bool (digB b)) ∧ w = w' := by
  by_cases h1 : 48 ≤ b
  · by_cases h2 : b ≤ 57
    · go_enter Try.func83, Try.ntmps83
      go_wp2
      go_ret
      exact ⟨ret_bool (by rw [digB_yes h1 h2]), rfl⟩
    · go_enter Try.func83, Try.ntmps83
      go_wp2
      go_ret
      exact ⟨ret_bool (by rw [digB_high h2]), rfl⟩
  · go_enter Try.func83, Try.ntmps83
    go_wp2
    go_ret
    exact ⟨ret_bool (by rw [digB_low h1]), rfl⟩

theorem Try.fits_any (m : Int) (w : World) :
    Calls Try.prog 69 #[.int .i64 m] w fun e w' => e = .returned (.bool (fitB m)) ∧ w = w' := by
  by_cases h1 : -100000000 ≤ m
  · by_cases h2 : m ≤ 100000000
    · go_enter Try.func69, Try.ntmps69
      go_wp2
      go_ret
      exact ⟨ret_bool (by simp [fitB]; omega), rfl⟩
    · go_enter Try.func69, Try.ntmps69
      go_wp2
      go_ret
      exact ⟨ret_bool (by simp [fitB]; omega), rfl⟩
  · go_enter Try.func69, Try.ntmps69
    go_wp2
    go_ret
    exact ⟨ret_bool (by simp [fitB]; omega), rfl⟩

theorem Try.tens_any (k : Nat) (hk : k ≤ 18) (w : World) :
    Calls Try.prog 68 #[.int .i64 (k : Int)] w fun e w' => e = .returned (.int .i64 ((10 ^ k : Nat) : Int)) ∧ w = w' := by
  go_enter Try.func68, Try.ntmps68
  go_wp2
  go_loop [3, 5] (fun t i => ∃ j : Nat, j ≤ k ∧ i = .int .i64 j ∧ t = .int .i64 ((10 ^ j : Nat) : Int)) (fun _ i => k - (intOf i).toNat)
  case atStart => exact ⟨0, Nat.zero_le _, rfl, rfl⟩
  case round =>
    obtain ⟨j, hj, rfl, rfl⟩ := hrel
    by_cases hlt : j < k
    · obtain ⟨t, ht⟩ : ∃ t : Int, t = ((10 ^ j : Nat) : Int) := ⟨_, rfl⟩
      have htb : t ≤ 100000000000000000 := by
        rw [ht]; have : 10 ^ j ≤ 10 ^ 17 := Nat.pow_le_pow_right (by omega) (by omega); omega
      have ht0 : 0 ≤ t := by rw [ht]; exact Int.natCast_nonneg _
      rw [← ht]
      have Ht := Lib.hid ht
      clear ht
      go_wp2
      go_round
      case rel => exact ⟨j + 1, by omega, by go_num, by rw [Ht.out]; rw [Nat.pow_succ]; go_num⟩
      case measure => simp [intOf]; omega
    · obtain rfl : j = k := by omega
      go_wp2
      go_ret
      exact ⟨rfl, rfl⟩
#print axioms Try.tens_any
end Go.Proofs
/- fixed.may, fixed.Least, the statements' own good, and the document's tens and Least. Conditions: those that each theorem names. -/
namespace Go.Fx
/-- The least form of m divided by 10 to the s. -/
def least : Nat → Int → Int × Nat
  | 0, m => (m, 0)
  | s + 1, m => if m.tmod 10 = 0 then least s (m.tdiv 10) else (m, s + 1)
theorem least_zero (s : Nat) : least s 0 = (0, 0) := by
  induction s with
  | zero => rfl
  | succ s ih => simp [least, ih]
theorem least_le (s : Nat) (m : Int) : (least s m).2 ≤ s := by
  induction s generalizing m with
  | zero => simp [least]
  | succ s ih => unfold least; split
                 · have := ih (m.tdiv 10); omega
                 · simp
theorem least_stop (g : Nat) (m : Int) (h : ¬ m.tmod 10 = 0) : least g m = (m, g) := by
  cases g with
  | zero => rfl
  | succ g => simp [least, h]
theorem least_go (g : Nat) (m : Int) (h : m.tmod 10 = 0) : least (g + 1) m = least g (m.tdiv 10) := by simp [least, h]
theorem tdiv_cases (m : Int) (k : Int) : (0 ≤ m ∧ m.tdiv k = m / k ∧ m.tmod k = m % k) ∨ (m < 0 ∧ m.tdiv k = -((-m) / k) ∧ m.tmod k = -((-m) % k)) := by
  by_cases h : 0 ≤ m
  · exact .inl ⟨h, Int.tdiv_eq_ediv_of_nonneg h, Int.tmod_eq_emod_of_nonneg h⟩
  · refine .inr ⟨by omega, ?_, ?_⟩
    · have := Int.neg_tdiv (-m) k
      rw [Int.neg_neg] at this
      rw [this, Int.tdiv_eq_ediv_of_nonneg (by omega)]
    · have := Int.neg_tmod (-m) k
      rw [Int.neg_neg] at this
      rw [this, Int.tmod_eq_emod_of_nonneg (by omega)]
theorem tdiv10_bd {m : Int} (h1 : -9223372036854775807 ≤ m) (h2 : m ≤ 9223372036854775807) : -9223372036854775807 ≤ m.tdiv 10 ∧ m.tdiv 10 ≤ 9223372036854775807 := by
  rcases tdiv_cases m 10 with ⟨a, b, _⟩ | ⟨a, b, _⟩ <;> omega
end Go.Fx
namespace Go.Proofs
open Go.RowKit Go.Fx
attribute [local go_sem] Oper.semAt_some

theorem ret_num {a : Int} {c : Nat} {x : Int × Nat} (h : x = (a, c)) : Ending.returned (.agg #[.int .i64 a, .int .i64 (c : Int)]) = .returned (.agg #[.int .i64 x.1, .int .i64 (x.2 : Int)]) := by rw [h]

theorem Try.may_any (m s : Int) (w : World) :
    Calls Try.prog 67 #[.agg #[.int .i64 m, .int .i64 s]] w fun e w' => e = .returned (.bool (mayB m s)) ∧ w' = w.alloc (.cells #[.int .i64 m, .int .i64 s] 58) := by
  by_cases h1 : 0 ≤ s
  · by_cases h2 : s ≤ 6
    · by_cases h3 : -1000000000000 ≤ m
      · by_cases h4 : m ≤ 1000000000000
        · go_enter Try.func67, Try.ntmps67
          go_wp2
          go_ret
          exact ⟨ret_bool (by simp [mayB]; omega), rfl⟩
        · go_enter Try.func67, Try.ntmps67
          go_wp2
          go_ret
          exact ⟨ret_bool (by simp [mayB]; omega), rfl⟩
      · go_enter Try.func67, Try.ntmps67
        go_wp2
        go_ret
        exact ⟨ret_bool (by simp [mayB]; omega), rfl⟩
    · go_enter Try.func67, Try.ntmps67
      go_wp2
      go_ret
      exact ⟨ret_bool (by simp [mayB]; omega), rfl⟩
  · go_enter Try.func67, Try.ntmps67
    go_wp2
    go_ret
    exact ⟨ret_bool (by simp [mayB]; omega), rfl⟩


theorem Try.rtens_any (k : Nat) (hk : k ≤ 18) (w : World) :
    Calls Try.prog 44 #[.int .i64 (k : Int)] w fun e w' => e = .returned (.int .i64 ((10 ^ k : Nat) : Int)) ∧ w = w' := by
  go_enter Try.func44, Try.ntmps44
  go_wp2
  go_loop [3, 4] (fun t i => ∃ j : Nat, j ≤ k ∧ i = .int .i64 j ∧ t = .int .i64 ((10 ^ j : Nat) : Int)) (fun _ i => k - (intOf i).toNat)
  case atStart => exact ⟨0, Nat.zero_le _, rfl, rfl⟩
  case round =>
    obtain ⟨j, hj, rfl, rfl⟩ := hrel
    by_cases hlt : j < k
    · obtain ⟨t, ht⟩ : ∃ t : Int, t = ((10 ^ j : Nat) : Int) := ⟨_, rfl⟩
      have htb : t ≤ 100000000000000000 := by
        rw [ht]; have : 10 ^ j ≤ 10 ^ 17 := Nat.pow_le_pow_right (by omega) (by omega); omega
      have ht0 : 0 ≤ t := by rw [ht]; exact Int.natCast_nonneg _
      rw [← ht]
      have Ht := Lib.hid ht
      clear ht
      go_wp2
      go_round
      case rel => exact ⟨j + 1, by omega, by go_num, by rw [Ht.out]; rw [Nat.pow_succ]; go_num⟩
      case measure => simp [intOf]; omega
    · obtain rfl : j = k := by omega
      go_wp2
      go_ret
      exact ⟨rfl, rfl⟩

set_option maxHeartbeats 400000 in
theorem Try.Least_any (m : Int) (s : Nat) (hm0 : -9223372036854775807 ≤ m) (hm1 : m ≤ 9223372036854775807) (hs : s ≤ 6) (w : World) :
    Calls Try.prog 80 #[.agg #[.int .i64 m, .int .i64 (s : Int)]] w fun e w' => e = .returned (.agg #[.int .i64 (least s m).1, .int .i64 ((least s m).2 : Int)]) ∧ Below w.heap.size w w' := by
  by_cases h0 : m = 0
  · obtain ⟨x, hx⟩ : ∃ x, least s m = x := ⟨_, rfl⟩
    obtain rfl : x = (0, 0) := by rw [← hx, h0]; exact least_zero s
    rw [hx]
    clear hx
    subst h0
    go_enter Try.func80, Try.ntmps80
    go_wp2
    refine bodyPost_ret (v := .agg #[.int .i64 0, .int .i64 0]) (by simp [results, Try.results80, go_sem]) rfl ⟨rfl, ?_⟩
    exact (((Below.refl _ w).alloc (Nat.le_refl _) _).alloc (by simp) _)
  · go_enter Try.func80, Try.ntmps80
    go_wp2
    go_loopg [] s (fun g wr => ∃ m' : Int, wr = ((w.alloc (.cells #[.int .i64 m', .int .i64 (g : Int)] 58)).alloc (.cells #[.int .i64 0, .int .i64 0] 58)) ∧ g ≤ s ∧ -9223372036854775807 ≤ m' ∧ m' ≤ 9223372036854775807 ∧ Hid (least g m' = least s m))
    case atStart => exact ⟨m, rfl, Nat.le_refl _, hm0, hm1, rfl⟩
    case round =>
      obtain ⟨m', rfl, hg, h1, h2, HL⟩ := hrel
      by_cases hg0 : 0 < gk
      · obtain ⟨g, rfl⟩ : ∃ g, gk = g + 1 := ⟨gk - 1, by omega⟩
        by_cases hz : m'.tmod 10 = 0
        · have hz' : (m'.tmod 10 == 0) = true := by simpa using hz
          have hb := tdiv10_bd h1 h2
          have HN : Hid (least g (m'.tdiv 10) = least s m) := by have := HL.out; rw [least_go g m' hz] at this; exact this
          clear hz HL
          go_wp2
          go_roundg g
          case measure => omega
          case rel => exact ⟨m'.tdiv 10, by simp, by omega, hb.1, hb.2, HN⟩
        · have hz' : (m'.tmod 10 == 0) = false := by simpa using hz
          have HN : Hid (least s m = (m', g + 1)) := by rw [← HL.out]; exact least_stop _ _ hz
          clear hz HL
          go_wp2
          refine bodyPost_ret (v := .agg #[.int .i64 m', .int .i64 ((g + 1 : Nat) : Int)]) (by simp [results, Try.results80, go_sem]) rfl ⟨ret_num HN.out, ?_⟩
          exact (((Below.refl _ w).alloc (Nat.le_refl _) _).alloc (by simp) _)
      · obtain rfl : gk = 0 := by omega
        have HN : Hid (least s m = (m', 0)) := by rw [← HL.out]; rfl
        clear HL
        go_wp2
        refine bodyPost_ret (v := .agg #[.int .i64 m', .int .i64 ((0 : Nat) : Int)]) (by simp [results, Try.results80, go_sem]) rfl ⟨ret_num HN.out, ?_⟩
        exact (((Below.refl _ w).alloc (Nat.le_refl _) _).alloc (by simp) _)
#print axioms Try.Least_any
end Go.Proofs
/- fixed.Cmp, fixed.To, and the document's Least, Cmp, To. Conditions: those that each theorem names. -/
namespace Go.Fx
/-- 10 to the x. -/
def p10 (x : Int) : Int := ((10 ^ x.toNat : Nat) : Int)
theorem p10_nat (k : Nat) : p10 (k : Int) = ((10 ^ k : Nat) : Int) := by simp [p10]
theorem p10_pos (x : Int) : 1 ≤ p10 x := by
  unfold p10
  have : 0 < 10 ^ x.toNat := Nat.pow_pos (by omega)
  omega
theorem p10_le {x : Int} {k : Nat} (h : x ≤ k) : p10 x ≤ ((10 ^ k : Nat) : Int) := by
  unfold p10
  have : 10 ^ x.toNat ≤ 10 ^ k := Nat.pow_le_pow_right (by omega) (by omega)
  omega
theorem mul_bd {m t M T : Int} (h1 : -M ≤ m) (h2 : m ≤ M) (h3 : 0 ≤ t) (h4 : t ≤ T) (hM : 0 ≤ M) : -(M * T) ≤ m * t ∧ m * t ≤ M * T := by
  have a : m * t ≤ M * t := Int.mul_le_mul_of_nonneg_right h2 h3
  have b : M * t ≤ M * T := Int.mul_le_mul_of_nonneg_left h4 hM
  have c : (-M) * t ≤ m * t := Int.mul_le_mul_of_nonneg_right h1 h3
  rw [Int.neg_mul] at c
  omega
/-- How two numbers compare. -/
def cmpN (m s k t : Int) : Int := Lib.compareInt (m * p10 (6 - s)) (k * p10 (6 - t))
theorem scale_bd {m s : Int} (h0 : 0 ≤ s) (h6 : s ≤ 6) (h1 : -1000000000000 ≤ m) (h2 : m ≤ 1000000000000) : -1000000000000000000 ≤ m * p10 (6 - s) ∧ m * p10 (6 - s) ≤ 1000000000000000000 := by
  have hp := p10_pos (6 - s)
  have hq : p10 (6 - s) ≤ ((10 ^ 6 : Nat) : Int) := p10_le (by omega)
  have := mul_bd (M := 1000000000000) (T := 1000000) (t := p10 (6 - s)) h1 h2 (by omega) (by simpa using hq) (by omega)
  omega
end Go.Fx
namespace Go.Proofs
open Go.RowKit Go.Fx
attribute [local go_sem] Oper.semAt_some

theorem quiet_left {P : Program} {f : FuncId} {args : Array Value} {w : World} {n : Nat} {v : Value}
    (h : Calls P f args (w.drewN n) fun e w' => e = .returned v ∧ w.drewN n = w') : Calls P f args (w.drewN n) fun e w'' => e = .returned v ∧ ∃ m, w'' = w.drewN m :=
  h.mono fun _ _ ⟨he, hm⟩ => ⟨he, n, hm.symm⟩
theorem quiet_add_left {P : Program} {f : FuncId} {args : Array Value} {w : World} {a n : Nat} {v : Value}
    (h : Calls P f args (w.drewN (a + n)) fun e w' => e = .returned v ∧ w.drewN (a + n) = w') :
    Calls P f args (w.drewN (a + n)) fun e w'' => e = .returned v ∧ ∃ m, w'' = w.drewN (a + m) :=
  h.mono fun _ _ ⟨he, hm⟩ => ⟨he, n, hm.symm⟩
theorem fxbelow_drewN {B : Nat} {a w : World} (h : Below B a w) (n : Nat) : Below B a (w.drewN n) := ⟨h.os, h.tape, h.output, h.size, h.block⟩
theorem bcell {W w1 : World} (hb : Below W.heap.size W w1) : (∀ b o, b < W.heap.size → w1.cell? ⟨b, o, none⟩ = W.cell? ⟨b, o, none⟩) ∧ (∀ b o, b < W.heap.size → w1.frozen? ⟨b, o, none⟩ = W.frozen? ⟨b, o, none⟩) :=
  ⟨fun b o h => hb.cell (p := ⟨b, o, none⟩) h, fun b o h => hb.frozen (p := ⟨b, o, none⟩) h⟩

theorem Try.tens_int (x : Int) (h0 : 0 ≤ x) (h1 : x ≤ 18) (w : World) :
    Calls Try.prog 68 #[.int .i64 x] w fun e w' => e = .returned (.int .i64 (p10 x)) ∧ w = w' := by
  obtain ⟨k, rfl⟩ : ∃ k : Nat, x = (k : Int) := ⟨x.toNat, by omega⟩
  rw [p10_nat]
  exact Try.tens_any k (by omega) w
theorem Try.rtens_int (x : Int) (h0 : 0 ≤ x) (h1 : x ≤ 18) (w : World) :
    Calls Try.prog 44 #[.int .i64 x] w fun e w' => e = .returned (.int .i64 (p10 x)) ∧ w = w' := by
  obtain ⟨k, rfl⟩ : ∃ k : Nat, x = (k : Int) := ⟨x.toNat, by omega⟩
  rw [p10_nat]
  exact Try.rtens_any k (by omega) w

theorem mayB_mk {m s : Int} (h0 : 0 ≤ s) (h6 : s ≤ 6) (h1 : -1000000000000 ≤ m) (h2 : m ≤ 1000000000000) : mayB m s = true := by simp [mayB, *]
theorem mayB_of {m s : Int} (h : mayB m s = true) : 0 ≤ s ∧ s ≤ 6 ∧ -1000000000000 ≤ m ∧ m ≤ 1000000000000 := by
  simp [mayB] at h; omega
theorem Try.may_yes {m s : Int} (h : mayB m s = true) (w : World) :
    Calls Try.prog 67 #[.agg #[.int .i64 m, .int .i64 s]] w fun e w' => e = .returned (.bool true) ∧ w' = w.alloc (.cells #[.int .i64 m, .int .i64 s] 58) := by
  have := Try.may_any m s w
  rw [h] at this
  exact this

theorem Try.may_in (m s : Int) (h0 : 0 ≤ s) (h6 : s ≤ 6) (h1 : -1000000000000 ≤ m) (h2 : m ≤ 1000000000000) (w : World) :
    Calls Try.prog 67 #[.agg #[.int .i64 m, .int .i64 s]] w fun e w' => e = .returned (.bool true) ∧ w' = w.alloc (.cells #[.int .i64 m, .int .i64 s] 58) :=
  Try.may_yes (mayB_mk h0 h6 h1 h2) w


set_option maxHeartbeats 400000 in
theorem Try.rCmp_any (m s k t : Int) (hx : mayB m s = true) (hy : mayB k t = true) (w : World) :
    Calls Try.prog 25 #[.agg #[.int .i64 m, .int .i64 s], .agg #[.int .i64 k, .int .i64 t]] w fun e w' => e = .returned (.int .i64 (cmpN m s k t)) ∧ Below w.heap.size w w' := by
  obtain ⟨a1, a2, a3, a4⟩ := mayB_of hx
  obtain ⟨b1, b2, b3, b4⟩ := mayB_of hy
  have s1 := scale_bd a1 a2 a3 a4
  have s2 := scale_bd b1 b2 b3 b4
  have e1 : IntKind.i64.wrap (6 - s) = 6 - s := IntWalk.i64_in _ (by omega)
  have e2 : IntKind.i64.wrap (6 - t) = 6 - t := IntWalk.i64_in _ (by omega)
  have w1 : wrap64 (m * p10 (6 - s)) = m * p10 (6 - s) := by unfold wrap64; omega
  have w2 : wrap64 (k * p10 (6 - t)) = k * p10 (6 - t) := by unfold wrap64; omega
  obtain ⟨x, hx'⟩ : ∃ x, x = m * p10 (6 - s) := ⟨_, rfl⟩
  obtain ⟨y, hy'⟩ : ∃ y, y = k * p10 (6 - t) := ⟨_, rfl⟩
  have hz : cmpN m s k t = Lib.compareInt x y := by rw [hx', hy']; rfl
  rw [hz]
  rw [← hx'] at w1
  rw [← hy'] at w2
  have X : Hid (wrap64 (m * p10 (6 - s)) = x) := by rw [← hx']; exact w1
  have Y : Hid (wrap64 (k * p10 (6 - t)) = y) := by rw [← hy']; exact w2
  clear hx hy s1 s2 hx' hy' hz w1 w2
  go_enter Try.func25, Try.ntmps25
  go_wp2
  go_quiet ((go_at_call 44; exact quiet_left (Try.rtens_int _ (by omega) (by omega) _)))
  rw [X.out]
  go_wp2
  go_quiet ((go_at_call 44; exact quiet_add_left (Try.rtens_int _ (by omega) (by omega) _)))
  rw [Y.out]
  by_cases h1 : x < y
  · go_wp2
    go_ret
    refine ⟨ret_int (by simp [Lib.compareInt, h1]), fxbelow_drewN ?_ _⟩
    exact (((Below.refl _ w).alloc (Nat.le_refl _) _).alloc (by simp) _)
  · by_cases h2 : y < x
    · go_wp2
      go_ret
      refine ⟨ret_int (by unfold Lib.compareInt; rw [if_neg (by omega), if_pos (by omega)]), fxbelow_drewN ?_ _⟩
      exact (((Below.refl _ w).alloc (Nat.le_refl _) _).alloc (by simp) _)
    · go_wp2
      go_ret
      refine ⟨ret_int (by unfold Lib.compareInt; rw [if_neg (by omega), if_neg (by omega)]), fxbelow_drewN ?_ _⟩
      exact (((Below.refl _ w).alloc (Nat.le_refl _) _).alloc (by simp) _)

set_option maxHeartbeats 400000 in
theorem Try.rLeast_any (m : Int) (s : Nat) (hm0 : -9223372036854775807 ≤ m) (hm1 : m ≤ 9223372036854775807) (hs : s ≤ 6) (w : World) :
    Calls Try.prog 66 #[.agg #[.int .i64 m, .int .i64 (s : Int)]] w fun e w' => e = .returned (.agg #[.int .i64 (least s m).1, .int .i64 ((least s m).2 : Int)]) ∧ Below w.heap.size w w' := by
  go_enter Try.func66, Try.ntmps66
  go_wp2
  go_loopg [] s (fun g wr => ∃ m' : Int, wr = ((w.alloc (.cells #[.int .i64 m', .int .i64 (g : Int)] 59)).alloc (.cells #[.int .i64 0, .int .i64 0] 59)) ∧ g ≤ s ∧ -9223372036854775807 ≤ m' ∧ m' ≤ 9223372036854775807 ∧ Hid (least g m' = least s m))
  case atStart => exact ⟨m, rfl, Nat.le_refl _, hm0, hm1, rfl⟩
  case round =>
    obtain ⟨m', rfl, hg, h1, h2, HL⟩ := hrel
    by_cases hg0 : 0 < gk
    · obtain ⟨g, rfl⟩ : ∃ g, gk = g + 1 := ⟨gk - 1, by omega⟩
      by_cases hz : m'.tmod 10 = 0
      · have hz' : (m'.tmod 10 == 0) = true := by simpa using hz
        have hb := tdiv10_bd h1 h2
        have HN : Hid (least g (m'.tdiv 10) = least s m) := by have := HL.out; rw [least_go g m' hz] at this; exact this
        clear hz HL
        go_wp2
        go_roundg g
        case measure => omega
        case rel => exact ⟨m'.tdiv 10, by simp, by omega, hb.1, hb.2, HN⟩
      · have hz' : (m'.tmod 10 == 0) = false := by simpa using hz
        have HN : Hid (least s m = (m', g + 1)) := by rw [← HL.out]; exact least_stop _ _ hz
        clear hz HL
        go_wp2
        refine bodyPost_ret (v := .agg #[.int .i64 m', .int .i64 ((g + 1 : Nat) : Int)]) (by simp [results, Try.results66, go_sem]) rfl ⟨ret_num HN.out, ?_⟩
        exact (((Below.refl _ w).alloc (Nat.le_refl _) _).alloc (by simp) _)
    · obtain rfl : gk = 0 := by omega
      have HN : Hid (least s m = (m', 0)) := by rw [← HL.out]; rfl
      clear HL
      go_wp2
      refine bodyPost_ret (v := .agg #[.int .i64 m', .int .i64 ((0 : Nat) : Int)]) (by simp [results, Try.results66, go_sem]) rfl ⟨ret_num HN.out, ?_⟩
      exact (((Below.refl _ w).alloc (Nat.le_refl _) _).alloc (by simp) _)
#print axioms Try.rLeast_any
#print axioms Try.rCmp_any
end Go.Proofs
/- The reader of package fixed: skip, sign, point, digits, end. Conditions: the reader's one cell may be written. -/
namespace Go.Fx
/-- Does a text begin with this byte? -/
def headB (c : UInt8) : List UInt8 → Bool
  | [] => false
  | a :: _ => a == c
/-- The text without this byte ahead. -/
def tailIf (c : UInt8) (l : List UInt8) : List UInt8 := if headB c l then l.tail else l
theorem has_head (c : UInt8) (l : List UInt8) : Lib.hasPrefix l [c] = headB c l := by
  cases l with
  | nil => rfl
  | cons a r =>
    simp only [Lib.hasPrefix, headB, List.isPrefixOf, Bool.and_true]
    rw [Bool.eq_iff_iff, beq_iff_eq, beq_iff_eq]
    exact ⟨fun h => h.symm, fun h => h.symm⟩
theorem trim_head (c : UInt8) (l : List UInt8) : Lib.trimPrefix l [c] = tailIf c l := by
  unfold Lib.trimPrefix tailIf
  rw [has_head]
  cases l <;> simp [headB]
/-- Is a byte a digit? -/
def dg (c : UInt8) : Bool := digB (c.toNat : Int)
/-- A number that goes on with these digits. -/
def valF (m : Int) (l : List UInt8) : Int := l.foldl (fun n c => 10 * n + ((c.toNat : Int) - 48)) m
theorem valF_snoc (m : Int) (l : List UInt8) (c : UInt8) : valF m (l ++ [c]) = 10 * valF m l + ((c.toNat : Int) - 48) := by simp [valF]
theorem dg_bd {c : UInt8} (h : dg c = true) : 48 ≤ (c.toNat : Int) ∧ (c.toNat : Int) ≤ 57 := by simp [dg, digB] at h; omega
theorem valF_bd {a : Nat} (m : Int) (h0 : 0 ≤ m) (h1 : m < ((10 ^ a : Nat) : Int)) (l : List UInt8) (hl : ∀ c ∈ l, dg c = true) :
    0 ≤ valF m l ∧ valF m l < ((10 ^ (a + l.length) : Nat) : Int) := by
  induction l generalizing m a with
  | nil => exact ⟨h0, by simpa [valF] using h1⟩
  | cons c l ih =>
    have b := dg_bd (hl c (by simp))
    have e : 10 ^ (a + 1) = 10 * 10 ^ a := by rw [Nat.pow_succ, Nat.mul_comm]
    have i := ih (a := a + 1) (10 * m + ((c.toNat : Int) - 48)) (by omega) (by rw [e]; omega) (fun x hx => hl x (by simp [hx]))
    rw [show a + (c :: l).length = a + 1 + l.length from by simp; omega]
    exact i
theorem takeWhile_stop {l : List UInt8} {j : Nat} (ha : ∀ c ∈ l.take j, dg c = true) (hs : l.length ≤ j ∨ ∃ c, l[j]? = some c ∧ dg c = false) : l.takeWhile dg = l.take j := by
  induction l generalizing j with
  | nil => simp
  | cons a r ih =>
    cases j with
    | zero =>
      rcases hs with h | ⟨c, h, hd⟩
      · simp at h
      · simp at h; subst h; simp [hd]
    | succ j =>
      have h1 := ha a (by simp)
      simp only [List.takeWhile_cons, h1, if_true, List.take_succ_cons]
      congr 1
      exact ih (fun c hc => ha c (by simp [hc])) (by simpa using hs)
theorem takeWhile_more {l : List UInt8} {j : Nat} (ha : ∀ c ∈ l.take j, dg c = true) {c : UInt8} (hs : l[j]? = some c) (hd : dg c = true) : j < (l.takeWhile dg).length := by
  induction l generalizing j with
  | nil => simp at hs
  | cons a r ih =>
    cases j with
    | zero => simp at hs; subst hs; simp [hd]
    | succ j =>
      have h1 := ha a (by simp)
      simp only [List.takeWhile_cons, h1, if_true, List.length_cons]
      have := ih (j := j) (fun x hx => ha x (by simp [hx])) (by simpa using hs)
      omega
theorem take_snoc {l : List UInt8} {j : Nat} {c : UInt8} (h : l[j]? = some c) : l.take (j + 1) = l.take j ++ [c] := by
  obtain ⟨hj, rfl⟩ := List.getElem?_eq_some_iff.1 h
  rw [List.take_succ_eq_append_getElem hj]
end Go.Fx
namespace Go.Proofs
open Go.RowKit Go.Fx
attribute [local go_sem] Oper.semAt_some

/-- The text of these bytes. -/
def str (l : List UInt8) : Value := .string ⟨l.toArray⟩
theorem Try.skip_any (b : Nat) (l : List UInt8) (c : UInt8) (w : World) (hc : w.cell? ⟨b, 0, none⟩ = some (.string ⟨l.toArray⟩)) (hf : w.frozen? ⟨b, 0, none⟩ = false) :
    Calls Try.prog 82 #[.pointer (some ⟨b, 0, none⟩), .string ⟨#[c]⟩] w fun e w' => e = .returned (.bool (headB c l)) ∧ w' = w.setCell ⟨b, 0, none⟩ (.string ⟨(tailIf c l).toArray⟩) := by
  have H := Try.strings_CutPrefix ⟨l.toArray⟩ ⟨#[c]⟩ w
  simp only [has_head, trim_head] at H
  have HC := Lib.hid H
  clear H
  go_enter Try.func82, Try.ntmps82
  go_wp2_with (go_at_call 88; refine HC.out.mono ?_; rintro e w' ⟨rfl, rfl⟩)
  go_ret
  exact ⟨rfl, rfl⟩

theorem Try.sign_any (b : Nat) (l : List UInt8) (w : World) (hc : w.cell? ⟨b, 0, none⟩ = some (.string ⟨l.toArray⟩)) (hf : w.frozen? ⟨b, 0, none⟩ = false) :
    Calls Try.prog 61 #[.pointer (some ⟨b, 0, none⟩)] w fun e w' => e = .returned (.int .i64 (if headB 45 l then -1 else 1)) ∧ w' = w.setCell ⟨b, 0, none⟩ (.string ⟨(tailIf 45 l).toArray⟩) := by
  have H := Lib.hid (Try.skip_any b l 45 w hc hf)
  by_cases h : headB 45 l = true
  · rw [h] at H
    rw [h]
    clear h
    go_enter Try.func61, Try.ntmps61
    go_wp2_with (go_at_call 82; refine H.out.mono ?_; rintro e w' ⟨rfl, rfl⟩)
    go_ret
    exact ⟨rfl, rfl⟩
  · simp only [Bool.not_eq_true] at h
    rw [h] at H
    rw [h]
    clear h
    go_enter Try.func61, Try.ntmps61
    go_wp2_with (go_at_call 82; refine H.out.mono ?_; rintro e w' ⟨rfl, rfl⟩)
    go_ret
    exact ⟨rfl, rfl⟩
theorem Try.point_any (b : Nat) (l : List UInt8) (w : World) (hc : w.cell? ⟨b, 0, none⟩ = some (.string ⟨l.toArray⟩)) (hf : w.frozen? ⟨b, 0, none⟩ = false) :
    Calls Try.prog 65 #[.pointer (some ⟨b, 0, none⟩)] w fun e w' => e = .returned (.bool (headB 46 l)) ∧ w' = w.setCell ⟨b, 0, none⟩ (.string ⟨(tailIf 46 l).toArray⟩) := by
  have H := Lib.hid (Try.skip_any b l 46 w hc hf)
  go_enter Try.func65, Try.ntmps65
  go_wp2_with (go_at_call 82; refine H.out.mono ?_; rintro e w' ⟨rfl, rfl⟩)
  go_ret
  exact ⟨rfl, rfl⟩
/-- How a reader gives up. -/
def up20 : Ending := .panicked [{ v := .iface 39 (.int .i64 20), recovered := false }]
theorem Try.end_none (b : Nat) (w : World) (hc : w.cell? ⟨b, 0, none⟩ = some (.string ⟨#[]⟩)) :
    Calls Try.prog 81 #[.pointer (some ⟨b, 0, none⟩)] w fun e w' => e = .returned (.tuple #[]) ∧ w = w' := by
  go_enter Try.func81, Try.ntmps81
  go_wp2
  go_end0
  exact ⟨rfl, rfl⟩
theorem Try.end_some (b : Nat) (l : List UInt8) (hl : l ≠ []) (w : World) (hc : w.cell? ⟨b, 0, none⟩ = some (.string ⟨l.toArray⟩)) :
    Calls Try.prog 81 #[.pointer (some ⟨b, 0, none⟩)] w fun e w' => e = up20 ∧ w = w' := by
  have h1 : l.isEmpty = false := by cases l <;> simp_all
  clear hl
  go_enter Try.func81, Try.ntmps81
  go_wp2
  exact ⟨rfl, rfl, rfl⟩
theorem Try.digit_yes {c : UInt8} (h : dg c = true) (w : World) : Calls Try.prog 83 #[.int .u8 (c.toNat : Int)] w fun e w' => e = .returned (.bool true) ∧ w = w' := by
  have := Try.digit_any (c.toNat : Int) w
  rw [show digB (c.toNat : Int) = true from h] at this
  exact this
theorem Try.digit_no {c : UInt8} (h : dg c = false) (w : World) : Calls Try.prog 83 #[.int .u8 (c.toNat : Int)] w fun e w' => e = .returned (.bool false) ∧ w = w' := by
  have := Try.digit_any (c.toNat : Int) w
  rw [show digB (c.toNat : Int) = false from h] at this
  exact this
/-- How digits ends. -/
def DigPost (b : Nat) (l : List UInt8) (m most : Int) (w : World) (e : Ending) (w' : World) : Prop :=
  if 1 ≤ (l.takeWhile dg).length ∧ ((l.takeWhile dg).length : Int) ≤ most then
    e = .returned (.tuple #[.int .i64 (valF m (l.takeWhile dg)), .int .i64 (l.takeWhile dg).length]) ∧ w' = w.setCell ⟨b, 0, none⟩ (.string ⟨(l.drop (l.takeWhile dg).length).toArray⟩)
  else e = up20 ∧ w' = w
theorem dig_up {b : Nat} {l : List UInt8} {m most : Int} {w : World} (h : ¬ (1 ≤ (l.takeWhile dg).length ∧ ((l.takeWhile dg).length : Int) ≤ most)) : DigPost b l m most w (.panicked [{ v := .iface 39 (.int .i64 20), recovered := false }]) w := by
  unfold DigPost
  rw [if_neg h]
  exact ⟨rfl, rfl⟩
theorem dig_ret {b : Nat} {s : ByteArray} {m : Int} {most j : Nat} {n : Int} {w : World} {v : Value} (hj : 1 ≤ j) (hjs : j ≤ s.size) (hm : j ≤ most) (hn : n = valF m (s.data.toList.take j)) (ht : s.data.toList.takeWhile dg = s.data.toList.take j) (hv : v = .string ⟨(s.data.toList.drop j).toArray⟩) :
    DigPost b s.data.toList m most w (.returned (.tuple #[.int .i64 n, .int .i64 (j : Int)])) (w.setCell ⟨b, 0, none⟩ v) := by
  have hl : (s.data.toList.takeWhile dg).length = j := by
    rw [ht, List.length_take, Array.length_toList]
    exact Nat.min_eq_left hjs
  unfold DigPost
  rw [hl, if_pos ⟨hj, by omega⟩, ht, hn, hv]
  exact ⟨rfl, rfl⟩
theorem str_drop (s : ByteArray) (j : Nat) : Value.string (s.extract j s.size) = .string ⟨(s.data.toList.drop j).toArray⟩ := by
  congr 1
  apply ByteArray.ext
  apply Array.ext'
  rw [Lib.extract_data]
  simp [List.take_of_length_le]
set_option maxHeartbeats 400000 in
theorem Try.fxdigits_any (b : Nat) (s : ByteArray) (hs : s.size ≤ 9223372036854775807) (m : Int) (a most : Nat) (h0 : 0 ≤ m) (h1 : m < ((10 ^ a : Nat) : Int)) (hm0 : 1 ≤ most) (hm : a + most ≤ 18) (w : World)
    (hc : w.cell? ⟨b, 0, none⟩ = some (.string s)) (hf : w.frozen? ⟨b, 0, none⟩ = false) :
    Calls Try.prog 62 #[.pointer (some ⟨b, 0, none⟩), .int .i64 m, .int .i64 (most : Int)] w fun e w' => DigPost b s.data.toList m most w e w' := by
  have h1' := Lib.hid h1
  clear h1
  go_enter Try.func62, Try.ntmps62
  go_wp2
  go_loop [1, 8] (fun v i => ∃ (j : Nat) (n : Int), j ≤ s.size ∧ j ≤ most ∧ i = .int .i64 (j : Int) ∧ v = .int .i64 n ∧ Hid (n = valF m (s.data.toList.take j) ∧ ∀ c ∈ s.data.toList.take j, dg c = true)) (fun _ i => s.size - (intOf i).toNat)
  case atStart => exact ⟨0, m, Nat.zero_le _, Nat.zero_le _, rfl, rfl, ⟨by simp [valF], by simp⟩⟩
  case round =>
    obtain ⟨j, n, hj, hjm, rfl, rfl, HN⟩ := hrel
    by_cases hlt : j < s.size
    · have hget : s.data.toList[j]? = some s[j] := by
        have h' : j < s.data.toList.length := by simpa using hlt
        rw [List.getElem?_eq_getElem h']; rfl
      by_cases hd : dg s[j] = true
      · have HM : Hid (j < (s.data.toList.takeWhile dg).length) := takeWhile_more HN.out.2 hget hd
        have hd2 := dg_bd hd
        have HD := Lib.hid hd
        have HS : Hid (s.data.toList.take (j + 1) = s.data.toList.take j ++ [s[j]]) := take_snoc hget
        clear hd hget
        by_cases hjq : j = most
        · subst hjq
          clear hd2
          go_wp2_with (go_at_call 83; refine (Try.digit_yes HD.out _).mono ?_; rintro e w' ⟨rfl, rfl⟩)
          exact ⟨rfl, dig_up (by have := HM.out; omega)⟩
        · have hnb := valF_bd m h0 h1'.out (s.data.toList.take j) HN.out.2
          rw [← HN.out.1] at hnb
          have hnq : n ≤ 99999999999999999 := by
            have e1 : (s.data.toList.take j).length ≤ j := List.length_take_le _ _
            have e2 : 10 ^ (a + (s.data.toList.take j).length) ≤ 10 ^ 17 := Nat.pow_le_pow_right (by omega) (by omega)
            omega
          have hn0 := hnb.1
          clear hnb
          have HX : Hid (10 * n + ((s[j].toNat : Int) - 48) = valF m (s.data.toList.take (j + 1)) ∧ ∀ c ∈ s.data.toList.take (j + 1), dg c = true) := by
            refine ⟨by rw [HS.out, valF_snoc, ← HN.out.1], ?_⟩
            rw [HS.out]
            intro c hc'
            rcases List.mem_append.1 hc' with h | h
            · exact HN.out.2 c h
            · rw [List.mem_singleton.1 h]; exact HD.out
          go_wp2_with (go_at_call 83; refine (Try.digit_yes HD.out _).mono ?_; rintro e w' ⟨rfl, rfl⟩)
          go_round
          case rel => exact ⟨j + 1, 10 * n + ((s[j].toNat : Int) - 48), by omega, by omega, by go_num, by go_num, HX⟩
          case measure => simp [intOf]; omega
      · simp only [Bool.not_eq_true] at hd
        have HT : Hid (s.data.toList.takeWhile dg = s.data.toList.take j) := takeWhile_stop HN.out.2 (.inr ⟨_, hget, hd⟩)
        have HD := Lib.hid hd
        clear hd hget
        by_cases hj0 : 1 ≤ j
        · have hj1 : ((j : Int) == 0) = false := by simp; omega
          go_wp2_with (go_at_call 83; refine (Try.digit_no HD.out _).mono ?_; rintro e w' ⟨rfl, rfl⟩)
          go_ret2
          exact dig_ret hj0 (by omega) hjm HN.out.1 HT.out (str_drop s j)
        · obtain rfl : j = 0 := by omega
          go_wp2_with (go_at_call 83; refine (Try.digit_no HD.out _).mono ?_; rintro e w' ⟨rfl, rfl⟩)
          exact ⟨rfl, dig_up (by have := HT.out; simp [this])⟩
    · have hge : s.size ≤ j := by omega
      have HT : Hid (s.data.toList.takeWhile dg = s.data.toList.take j) := takeWhile_stop HN.out.2 (.inl (by rw [Array.length_toList]; exact hge))
      by_cases hj0 : 1 ≤ j
      · have hj1 : ((j : Int) == 0) = false := beq_eq_false_iff_ne.2 (by omega)
        go_wp2
        go_ret2
        exact dig_ret hj0 (by omega) hjm HN.out.1 HT.out (str_drop s j)
      · obtain rfl : j = 0 := by omega
        go_wp2
        exact ⟨rfl, dig_up (by have := HT.out; simp [this])⟩
#print axioms Try.fxdigits_any
end Go.Proofs
/- The two closures of package fixed that take a number from a reader. Conditions: the reader is a block of one cell. -/
namespace Go.Fx
/-- The digits ahead. -/
def digs (l : List UInt8) : List UInt8 := l.takeWhile dg
def sgn (l : List UInt8) : Int := if headB 45 l then -1 else 1
/-- What Int's reader takes: the number, its places, what is left. -/
def numI (l : List UInt8) : Option (Int × Nat × List UInt8) :=
  if 1 ≤ (digs (tailIf 45 l)).length ∧ (digs (tailIf 45 l)).length ≤ 12 then
    some (sgn l * valF 0 (digs (tailIf 45 l)), 0, (tailIf 45 l).drop (digs (tailIf 45 l)).length)
  else none
/-- What Read's reader takes behind the digits d, with a sign g. -/
def numT (g n : Int) (r : List UInt8) : Option (Int × Nat × List UInt8) :=
  if headB 46 r = true then
    if 1 ≤ (digs r.tail).length ∧ (digs r.tail).length ≤ 6 then some (g * valF n (digs r.tail), (digs r.tail).length, r.tail.drop (digs r.tail).length) else none
  else some (g * n, 0, r)
def numR (l : List UInt8) : Option (Int × Nat × List UInt8) :=
  if 1 ≤ (digs (tailIf 45 l)).length ∧ (digs (tailIf 45 l)).length ≤ 12 then
    numT (sgn l) (valF 0 (digs (tailIf 45 l))) ((tailIf 45 l).drop (digs (tailIf 45 l)).length)
  else none
theorem digs_all {l : List UInt8} : ∀ c ∈ digs l, dg c = true := fun _ h => by
  have := List.all_takeWhile (p := dg) (l := l)
  rw [List.all_eq_true] at this
  exact this _ h
theorem sgn_wrap (l : List UInt8) {v : Int} (h0 : 0 ≤ v) (h1 : v ≤ 1000000000000000000) : RowKit.wrap64 (sgn l * v) = sgn l * v := by
  have : sgn l * v = v ∨ sgn l * v = -v := by unfold sgn; split <;> omega
  unfold RowKit.wrap64
  omega
theorem digs_val (l : List UInt8) {m : Int} {a : Nat} (h0 : 0 ≤ m) (h1 : m < ((10 ^ a : Nat) : Int)) {k : Nat} (hk : a + (digs l).length ≤ k) : 0 ≤ valF m (digs l) ∧ valF m (digs l) < ((10 ^ k : Nat) : Int) := by
  have := valF_bd m h0 h1 (digs l) digs_all
  have e : 10 ^ (a + (digs l).length) ≤ 10 ^ k := Nat.pow_le_pow_right (by omega) hk
  omega
theorem sgn_cases (l : List UInt8) : sgn l = 1 ∨ sgn l = -1 := by unfold sgn; split <;> simp
end Go.Fx
namespace Go.Proofs
open Go.RowKit Go.Fx
attribute [local go_sem] Oper.semAt_some

/-- All that was there is as it was, but for block b. -/
structure But (b : Nat) (w w' : World) : Prop where
  os : w'.os = w.os
  tape : w'.tape = w.tape
  output : w'.output = w.output
  size : w.heap.size ≤ w'.heap.size
  block : ∀ k, k < w.heap.size → k ≠ b → w'.heap[k]? = w.heap[k]?
theorem But.refl (b : Nat) (w : World) : But b w w := ⟨rfl, rfl, rfl, Nat.le_refl _, fun _ _ _ => rfl⟩
theorem But.trans {b : Nat} {x y z : World} (h : But b x y) (k : But b y z) : But b x z :=
  ⟨k.os.trans h.os, k.tape.trans h.tape, k.output.trans h.output, Nat.le_trans h.size k.size, fun i hi hn => (k.block i (Nat.lt_of_lt_of_le hi h.size) hn).trans (h.block i hi hn)⟩
theorem But.alloc {b : Nat} {x y : World} (h : But b x y) (o : Obj) : But b x (y.alloc o) :=
  h.trans ⟨rfl, rfl, rfl, by simp, fun k hk _ => Below.heap_alloc _ _ _ hk⟩
theorem But.own {b : Nat} {x y : World} (h : But b x y) {p : Addr} (hp : p.block = b) (v : Value) : But b x (y.setCell p v) :=
  h.trans ⟨rfl, rfl, rfl, by simp [World.setCell], fun k _ hn => Below.heap_setCell _ _ _ _ (by omega)⟩
theorem But.new {b : Nat} {x y : World} (h : But b x y) {p : Addr} (hp : x.heap.size ≤ p.block) (v : Value) : But b x (y.setCell p v) :=
  ⟨h.os, h.tape, h.output, by simp [World.setCell]; exact h.size, fun k hk hn => (Below.heap_setCell _ _ _ _ (by omega)).trans (h.block k hk hn)⟩
theorem But.below {b B : Nat} {x y : World} (h : But b x y) (hb : B ≤ b) (hB : B ≤ x.heap.size) : Below B x y :=
  ⟨h.os, h.tape, h.output, h.size, fun k hk => h.block k (by omega) (by omega)⟩
theorem But.cell {b k : Nat} {x y : World} (h : But b x y) (hk : k < x.heap.size) (hn : k ≠ b) (o : Nat) : y.cell? ⟨k, o, none⟩ = x.cell? ⟨k, o, none⟩ := World.cell?_of_block (w := x) (h.block k hk hn)
theorem But.frozen {b k : Nat} {x y : World} (h : But b x y) (hk : k < x.heap.size) (hn : k ≠ b) (o : Nat) : y.frozen? ⟨k, o, none⟩ = x.frozen? ⟨k, o, none⟩ := World.frozen?_of_block (w := x) (h.block k hk hn)
/-- The two cells of a number that was made, behind what wrote to block b alone. -/
theorem But.fresh {b : Nat} {w y : World} {t : TypeId} {u v : Value} (h : But b (w.alloc (.cells #[u, v] t)) y) (hb : b < w.heap.size) :
    y.cell? ⟨w.heap.size, 0, none⟩ = some u ∧ y.cell? ⟨w.heap.size, 1, none⟩ = some v ∧ y.frozen? ⟨w.heap.size, 0, none⟩ = false ∧ y.frozen? ⟨w.heap.size, 1, none⟩ = false := by
  refine ⟨?_, ?_, ?_, ?_⟩
  · rw [h.cell (by simp) (by omega)]; simp [go_sem]
  · rw [h.cell (by simp) (by omega)]; simp [go_sem]
  · rw [h.frozen (by simp) (by omega)]; simp [go_sem]
  · rw [h.frozen (by simp) (by omega)]; simp [go_sem]
theorem tailIf_len {c : UInt8} {l : List UInt8} {n : Nat} (h : l.length ≤ n) : (tailIf c l).length ≤ n := by
  unfold tailIf
  split
  · rw [List.length_tail]; omega
  · exact h
theorem Boxed.apart {W : World} {b : Nat} {t : TypeId} {v : Value} (h : Boxed W b t v) {p : Addr} (hp : b ≠ p.block) (u : Value) : Boxed (W.setCell p u) b t v := (Below.heap_setCell W p u b hp).trans h
theorem Boxed.below {B b : Nat} {W W' : World} {t : TypeId} {v : Value} (h : Boxed W b t v) (hb : Below B W W') (hlt : b < B) : Boxed W' b t v := (hb.block b hlt).trans h

theorem Try.skip_box {b : Nat} {l : List UInt8} (c : UInt8) {w : World} (h : Boxed w b 141 (.string ⟨l.toArray⟩)) :
    Calls Try.prog 82 #[.pointer (some ⟨b, 0, none⟩), .string ⟨#[c]⟩] w fun e w' => e = .returned (.bool (headB c l)) ∧ Boxed w' b 141 (.string ⟨(tailIf c l).toArray⟩) ∧ But b w w' :=
  (Try.skip_any b l c w h.cell h.frozen).mono fun _ _ ⟨a, e⟩ => by subst e; exact ⟨a, h.set _, (But.refl b _).own (p := ⟨b, 0, none⟩) rfl _⟩
theorem Try.sign_box {b : Nat} {l : List UInt8} {w : World} (h : Boxed w b 141 (.string ⟨l.toArray⟩)) :
    Calls Try.prog 61 #[.pointer (some ⟨b, 0, none⟩)] w fun e w' => e = .returned (.int .i64 (sgn l)) ∧ Boxed w' b 141 (.string ⟨(tailIf 45 l).toArray⟩) ∧ But b w w' :=
  (Try.sign_any b l w h.cell h.frozen).mono fun _ _ ⟨a, e⟩ => by subst e; exact ⟨a, h.set _, (But.refl b _).own (p := ⟨b, 0, none⟩) rfl _⟩
theorem Try.point_box {b : Nat} {l : List UInt8} {w : World} (h : Boxed w b 141 (.string ⟨l.toArray⟩)) :
    Calls Try.prog 65 #[.pointer (some ⟨b, 0, none⟩)] w fun e w' => e = .returned (.bool (headB 46 l)) ∧ Boxed w' b 141 (.string ⟨(tailIf 46 l).toArray⟩) ∧ But b w w' :=
  (Try.point_any b l w h.cell h.frozen).mono fun _ _ ⟨a, e⟩ => by subst e; exact ⟨a, h.set _, (But.refl b _).own (p := ⟨b, 0, none⟩) rfl _⟩
theorem Try.digits_yes {b : Nat} {l : List UInt8} {w : World} (h : Boxed w b 141 (.string ⟨l.toArray⟩)) (hl : l.length ≤ 9223372036854775807) (m : Int) (a most : Nat) (h0 : 0 ≤ m) (h1 : m < ((10 ^ a : Nat) : Int)) (hm0 : 1 ≤ most) (hm : a + most ≤ 18)
    (hd : 1 ≤ (digs l).length ∧ (digs l).length ≤ most) :
    Calls Try.prog 62 #[.pointer (some ⟨b, 0, none⟩), .int .i64 m, .int .i64 (most : Int)] w fun e w' => e = .returned (.tuple #[.int .i64 (valF m (digs l)), .int .i64 ((digs l).length : Int)]) ∧ Boxed w' b 141 (.string ⟨(l.drop (digs l).length).toArray⟩) ∧ But b w w' := by
  refine (Try.fxdigits_any b ⟨l.toArray⟩ (show l.toArray.size ≤ _ by simpa using hl) m a most h0 h1 hm0 hm w h.cell h.frozen).mono fun e w' hp => ?_
  unfold DigPost at hp
  rw [if_pos (by unfold digs at hd; simp only; omega)] at hp
  obtain ⟨x, e⟩ := hp
  subst e
  simp only at x ⊢
  exact ⟨x, h.set _, (But.refl b _).own (p := ⟨b, 0, none⟩) rfl _⟩
theorem Try.digits_no {b : Nat} {l : List UInt8} {w : World} (h : Boxed w b 141 (.string ⟨l.toArray⟩)) (hl : l.length ≤ 9223372036854775807) (m : Int) (a most : Nat) (h0 : 0 ≤ m) (h1 : m < ((10 ^ a : Nat) : Int)) (hm0 : 1 ≤ most) (hm : a + most ≤ 18)
    (hd : ¬ (1 ≤ (digs l).length ∧ (digs l).length ≤ most)) :
    Calls Try.prog 62 #[.pointer (some ⟨b, 0, none⟩), .int .i64 m, .int .i64 (most : Int)] w fun e w' => e = .panicked [{ v := .iface 39 (.int .i64 20), recovered := false }] ∧ But b w w' := by
  refine (Try.fxdigits_any b ⟨l.toArray⟩ (show l.toArray.size ≤ _ by simpa using hl) m a most h0 h1 hm0 hm w h.cell h.frozen).mono fun e w' hp => ?_
  unfold DigPost at hp
  rw [if_neg (by unfold digs at hd; simp only; omega)] at hp
  obtain ⟨x, e⟩ := hp
  subst e
  exact ⟨x, But.refl _ _⟩
/-- How a closure ends that takes a number. -/
def NumPost (b : Nat) (o : Option (Int × Nat × List UInt8)) (w : World) (e : Ending) (w' : World) : Prop :=
  match o with
  | some (m, s, r) => e = .returned (.agg #[.int .i64 m, .int .i64 (s : Int)]) ∧ Boxed w' b 141 (.string ⟨r.toArray⟩) ∧ But b w w'
  | none => e = up20 ∧ But b w w'

set_option maxHeartbeats 400000 in
theorem Try.Int1_any {b : Nat} {l : List UInt8} {w : World} (h : Boxed w b 141 (.string ⟨l.toArray⟩)) (hl : l.length ≤ 9223372036854775807) :
    Calls Try.prog 60 #[.pointer (some ⟨b, 0, none⟩)] w fun e w' => NumPost b (numI l) w e w' := by
  by_cases hd : 1 ≤ (digs (tailIf 45 l)).length ∧ (digs (tailIf 45 l)).length ≤ 12
  · have hb := h.alloc (.cells #[.int .i64 0, .int .i64 0] 58)
    have hv := digs_val (tailIf 45 l) (m := 0) (a := 0) (k := 12) (by omega) (by decide) (by omega)
    have HW : Hid (wrap64 (sgn l * valF 0 (digs (tailIf 45 l))) = sgn l * valF 0 (digs (tailIf 45 l))) := sgn_wrap l hv.1 (by have := hv.2; simp at this; omega)
    clear hv
    have HD := Lib.hid hd
    have hn := h.lt
    clear hd
    go_enter Try.func60, Try.ntmps60
    go_wp2_with (go_at_call 61; refine (Try.sign_box hb).mono ?_; rintro e w1 ⟨rfl, hb1, hk1⟩)
    go_wp2_with (go_at_call 62; refine (Try.digits_yes hb1 (tailIf_len hl) 0 0 12 (by omega) (by decide) (by omega) (by omega) HD.out).mono ?_; rintro e w2 ⟨rfl, hb2, hk2⟩; obtain ⟨c0, c1, f0, f1⟩ := (hk1.trans hk2).fresh hn)
    refine bodyPost_ret (v := .agg #[.int .i64 (sgn l * valF 0 (digs (tailIf 45 l))), .int .i64 ((0 : Nat) : Int)]) (by rw [HW.out]; simp [results, Try.results60, go_sem, c0, c1]) rfl ?_
    rw [show numI l = some _ from by unfold numI; rw [if_pos HD.out]]
    exact ⟨rfl, Boxed.apart (Boxed.apart hb2 (by simp; omega) _) (by simp; omega) _, ((((But.refl b w).alloc _).trans (hk1.trans hk2)).new (by simp) _).new (by simp) _⟩
  · have hb := h.alloc (.cells #[.int .i64 0, .int .i64 0] 58)
    have HD := Lib.hid hd
    have hn := h.lt
    clear hd
    go_enter Try.func60, Try.ntmps60
    go_wp2_with (go_at_call 61; refine (Try.sign_box hb).mono ?_; rintro e w1 ⟨rfl, hb1, hk1⟩)
    go_wp2_with (go_at_call 62; refine (Try.digits_no hb1 (tailIf_len hl) 0 0 12 (by omega) (by decide) (by omega) (by omega) HD.out).mono ?_; rintro e w2 ⟨rfl, hk2⟩)
    refine ⟨rfl, ?_⟩
    rw [show numI l = none from by unfold numI; rw [if_neg HD.out]]
    exact ⟨rfl, ((But.refl b w).alloc _).trans (hk1.trans hk2)⟩

theorem tailIf_no {c : UInt8} {l : List UInt8} (h : headB c l = false) : tailIf c l = l := by unfold tailIf; rw [h]; rfl
theorem tailIf_yes {c : UInt8} {l : List UInt8} (h : headB c l = true) : tailIf c l = l.tail := by unfold tailIf; rw [h]; rfl

theorem Try.point_yes {b : Nat} {l : List UInt8} {w : World} (h : Boxed w b 141 (.string ⟨l.toArray⟩)) (hp : headB 46 l = true) :
    Calls Try.prog 65 #[.pointer (some ⟨b, 0, none⟩)] w fun e w' => e = .returned (.bool true) ∧ Boxed w' b 141 (.string ⟨l.tail.toArray⟩) ∧ But b w w' := by
  have := Try.point_box h
  rw [hp, tailIf_yes hp] at this
  exact this
theorem Try.point_no {b : Nat} {l : List UInt8} {w : World} (h : Boxed w b 141 (.string ⟨l.toArray⟩)) (hp : headB 46 l = false) :
    Calls Try.prog 65 #[.pointer (some ⟨b, 0, none⟩)] w fun e w' => e = .returned (.bool false) ∧ Boxed w' b 141 (.string ⟨l.toArray⟩) ∧ But b w w' := by
  have := Try.point_box h
  rw [hp, tailIf_no hp] at this
  exact this

set_option maxHeartbeats 400000 in
theorem Try.Read1_none {b : Nat} {l : List UInt8} {w : World} (h : Boxed w b 141 (.string ⟨l.toArray⟩)) (hl : l.length ≤ 9223372036854775807) (hd : ¬ (1 ≤ (digs (tailIf 45 l)).length ∧ (digs (tailIf 45 l)).length ≤ 12)) :
    Calls Try.prog 64 #[.pointer (some ⟨b, 0, none⟩)] w fun e w' => NumPost b (numR l) w e w' := by
  have hb := h.alloc (.cells #[.int .i64 0, .int .i64 0] 58)
  have HD := Lib.hid hd
  have hn := h.lt
  clear hd
  go_enter Try.func64, Try.ntmps64
  go_wp2_with (go_at_call 61; refine (Try.sign_box hb).mono ?_; rintro e w1 ⟨rfl, hb1, hk1⟩)
  go_wp2_with (go_at_call 62; refine (Try.digits_no hb1 (tailIf_len hl) 0 0 12 (by omega) (by decide) (by omega) (by omega) HD.out).mono ?_; rintro e w2 ⟨rfl, hk2⟩)
  refine ⟨rfl, ?_⟩
  rw [show numR l = none from by unfold numR; rw [if_neg HD.out]]
  exact ⟨rfl, ((But.refl b w).alloc _).trans (hk1.trans hk2)⟩

set_option maxHeartbeats 800000 in
theorem Try.Read1_some {b : Nat} {l : List UInt8} {w : World} (h : Boxed w b 141 (.string ⟨l.toArray⟩)) (hl : l.length ≤ 9223372036854775807) (hd : 1 ≤ (digs (tailIf 45 l)).length ∧ (digs (tailIf 45 l)).length ≤ 12) :
    Calls Try.prog 64 #[.pointer (some ⟨b, 0, none⟩)] w fun e w' => NumPost b (numR l) w e w' := by
  obtain ⟨r, hr⟩ : ∃ r, r = (tailIf 45 l).drop (digs (tailIf 45 l)).length := ⟨_, rfl⟩
  obtain ⟨n, hn⟩ : ∃ n, n = valF 0 (digs (tailIf 45 l)) := ⟨_, rfl⟩
  have hR : numR l = numT (sgn l) n r := by unfold numR; rw [if_pos hd, ← hr, ← hn]
  have hrl : r.length ≤ 9223372036854775807 := by rw [hr, List.length_drop]; have := tailIf_len (c := 45) hl; omega
  have hv := digs_val (tailIf 45 l) (m := 0) (a := 0) (k := 12) (by omega) (by decide) (by omega)
  rw [← hn] at hv
  have HW : Hid (wrap64 (sgn l * n) = sgn l * n) := sgn_wrap l hv.1 (by have := hv.2; simp at this; omega)
  have HD : Hid (∀ (w1 : World), Boxed w1 b 141 (.string ⟨(tailIf 45 l).toArray⟩) → Calls Try.prog 62 #[.pointer (some ⟨b, 0, none⟩), .int .i64 0, .int .i64 12] w1 fun e w' => e = .returned (.tuple #[.int .i64 n, .int .i64 ((digs (tailIf 45 l)).length : Int)]) ∧ Boxed w' b 141 (.string ⟨r.toArray⟩) ∧ But b w1 w') := by
    intro w1 hb1
    rw [hn, hr]
    exact Try.digits_yes hb1 (tailIf_len hl) 0 0 12 (by omega) (by decide) (by omega) (by omega) hd
  have hb := h.alloc (.cells #[.int .i64 0, .int .i64 0] 58)
  have hlt := h.lt
  rw [hR]
  have hn0 := hv.1
  have HN : Hid (n < ((10 ^ 12 : Nat) : Int)) := hv.2
  clear hd hr hn hv hR
  by_cases hp : headB 46 r = true
  · have ht := tailIf_yes hp
    have hrt : r.tail.length ≤ 9223372036854775807 := by rw [List.length_tail]; omega
    by_cases hq : 1 ≤ (digs r.tail).length ∧ (digs r.tail).length ≤ 6
    · have hT : numT (sgn l) n r = some (sgn l * valF n (digs r.tail), (digs r.tail).length, r.tail.drop (digs r.tail).length) := by unfold numT; rw [if_pos hp, if_pos hq]
      have hv2 := digs_val r.tail (m := n) (a := 12) (k := 18) hn0 HN.out (by omega)
      have HW2 : Hid (wrap64 (sgn l * valF n (digs r.tail)) = sgn l * valF n (digs r.tail)) := sgn_wrap l hv2.1 (by have := hv2.2; simp at this; omega)
      have HQ := Lib.hid hq
      have HTT := Lib.hid hT
      have HP := Lib.hid hp
      clear ht hq hT hv2 hp
      go_enter Try.func64, Try.ntmps64
      go_wp2_with (go_at_call 61; refine (Try.sign_box hb).mono ?_; rintro e w1 ⟨rfl, hb1, hk1⟩)
      go_wp2_with (go_at_call 62; refine (HD.out _ hb1).mono ?_; rintro e w2 ⟨rfl, hb2, hk2⟩)
      go_wp2_with (go_at_call 65; refine (Try.point_yes hb2 HP.out).mono ?_; rintro e w3 ⟨rfl, hb3, hk3⟩)
      go_wp2_with (go_at_call 62; refine (Try.digits_yes hb3 hrt n 12 6 hn0 HN.out (by omega) (by omega) HQ.out).mono ?_; rintro e w4 ⟨rfl, hb4, hk4⟩; obtain ⟨c0, c1, f0, f1⟩ := (((hk1.trans hk2).trans hk3).trans hk4).fresh hlt)
      refine bodyPost_ret (v := .agg #[.int .i64 (sgn l * valF n (digs r.tail)), .int .i64 ((digs r.tail).length : Int)]) (by rw [HW2.out]; simp [results, Try.results64, go_sem, c0, c1]) rfl ?_
      rw [HTT.out]
      exact ⟨rfl, Boxed.apart (Boxed.apart hb4 (by simp; omega) _) (by simp; omega) _, ((((But.refl b w).alloc _).trans (((hk1.trans hk2).trans hk3).trans hk4)).new (by simp) _).new (by simp) _⟩
    · have hT : numT (sgn l) n r = none := by unfold numT; rw [if_pos hp, if_neg hq]
      have HQ := Lib.hid hq
      have HTT := Lib.hid hT
      have HP := Lib.hid hp
      clear ht hq hT hp
      go_enter Try.func64, Try.ntmps64
      go_wp2_with (go_at_call 61; refine (Try.sign_box hb).mono ?_; rintro e w1 ⟨rfl, hb1, hk1⟩)
      go_wp2_with (go_at_call 62; refine (HD.out _ hb1).mono ?_; rintro e w2 ⟨rfl, hb2, hk2⟩)
      go_wp2_with (go_at_call 65; refine (Try.point_yes hb2 HP.out).mono ?_; rintro e w3 ⟨rfl, hb3, hk3⟩)
      go_wp2_with (go_at_call 62; refine (Try.digits_no hb3 hrt n 12 6 hn0 HN.out (by omega) (by omega) HQ.out).mono ?_; rintro e w4 ⟨rfl, hk4⟩)
      refine ⟨rfl, ?_⟩
      rw [HTT.out]
      exact ⟨rfl, ((But.refl b w).alloc _).trans (((hk1.trans hk2).trans hk3).trans hk4)⟩
  · have hT : numT (sgn l) n r = some (sgn l * n, 0, r) := by unfold numT; rw [if_neg hp]
    have HTT := Lib.hid hT
    simp only [Bool.not_eq_true] at hp
    have HP := Lib.hid hp
    clear hT hp
    go_enter Try.func64, Try.ntmps64
    go_wp2_with (go_at_call 61; refine (Try.sign_box hb).mono ?_; rintro e w1 ⟨rfl, hb1, hk1⟩)
    go_wp2_with (go_at_call 62; refine (HD.out _ hb1).mono ?_; rintro e w2 ⟨rfl, hb2, hk2⟩)
    go_wp2_with (go_at_call 65; refine (Try.point_no hb2 HP.out).mono ?_; rintro e w3 ⟨rfl, hb3, hk3⟩; obtain ⟨c0, c1, f0, f1⟩ := ((hk1.trans hk2).trans hk3).fresh hlt)
    refine bodyPost_ret (v := .agg #[.int .i64 (sgn l * n), .int .i64 ((0 : Nat) : Int)]) (by rw [HW.out]; simp [results, Try.results64, go_sem, c0, c1]) rfl ?_
    rw [HTT.out]
    exact ⟨rfl, Boxed.apart (Boxed.apart hb3 (by simp; omega) _) (by simp; omega) _, ((((But.refl b w).alloc _).trans ((hk1.trans hk2).trans hk3)).new (by simp) _).new (by simp) _⟩
theorem Try.Read1_any {b : Nat} {l : List UInt8} {w : World} (h : Boxed w b 141 (.string ⟨l.toArray⟩)) (hl : l.length ≤ 9223372036854775807) :
    Calls Try.prog 64 #[.pointer (some ⟨b, 0, none⟩)] w fun e w' => NumPost b (numR l) w e w' := by
  by_cases hd : 1 ≤ (digs (tailIf 45 l)).length ∧ (digs (tailIf 45 l)).length ≤ 12
  · exact Try.Read1_some h hl hd
  · exact Try.Read1_none h hl hd
#print axioms Try.Int1_any
#print axioms Try.Read1_any
end Go.Proofs
/- fixed.To and the document's To. Conditions: a number of which something is promised. -/
namespace Go.Fx
/-- fixed.To: the number and the error. -/
def toN (m s k : Int) : Int × Int :=
  if k < 0 ∨ 6 < k then (0, 1) else
  if s ≤ k then (if fitB (m * p10 (k - s)) = true then (m * p10 (k - s), 0) else (0, 2)) else
  if m.tmod (p10 (s - k)) = 0 then (if fitB (m.tdiv (p10 (s - k))) = true then (m.tdiv (p10 (s - k)), 0) else (0, 2)) else (0, 21)
theorem fitB_of {m : Int} (h : fitB m = true) : -100000000 ≤ m ∧ m ≤ 100000000 := by simpa [fitB] using h
theorem fitB_not {m : Int} (h : ¬ fitB m = true) : m < -100000000 ∨ 100000000 < m := by
  by_cases h1 : m < -100000000
  · exact .inl h1
  · refine .inr ?_
    by_cases h2 : m ≤ 100000000
    · exact absurd (by simp [fitB]; omega) h
    · omega
theorem tdiv_bd {m t B : Int} (h1 : -B ≤ m) (h2 : m ≤ B) (ht : 1 ≤ t) : -B ≤ m.tdiv t ∧ m.tdiv t ≤ B := by
  rcases tdiv_cases m t with ⟨a, b, _⟩ | ⟨a, b, _⟩
  · have h3 : 0 ≤ m / t := Int.ediv_nonneg a (by omega)
    have h4 : m / t ≤ m := Int.ediv_le_self t a
    omega
  · have h3 : 0 ≤ (-m) / t := Int.ediv_nonneg (by omega) (by omega)
    have h4 : (-m) / t ≤ -m := Int.ediv_le_self t (by omega)
    omega
end Go.Fx
namespace Go.Proofs
open Go.RowKit Go.Fx
attribute [local go_sem] Oper.semAt_some

theorem ret_two {a b : Int} {x : Int × Int} (h : x = (a, b)) : Ending.returned (.tuple #[.int .i64 a, .int .i64 b]) = .returned (.tuple #[.int .i64 x.1, .int .i64 x.2]) := by rw [h]
theorem Try.fits_yes {m : Int} (h : fitB m = true) (w : World) : Calls Try.prog 69 #[.int .i64 m] w fun e w' => e = .returned (.bool true) ∧ w = w' := by
  have := Try.fits_any m w
  rw [h] at this
  exact this
theorem Try.fits_no {m : Int} (h : ¬ fitB m = true) (w : World) : Calls Try.prog 69 #[.int .i64 m] w fun e w' => e = .returned (.bool false) ∧ w = w' := by
  have := Try.fits_any m w
  simp only [Bool.not_eq_true] at h
  rw [h] at this
  exact this

theorem Try.To_arg (m s k : Int) (hk : k < 0 ∨ 6 < k) (w : World) :
    Calls Try.prog 42 #[.agg #[.int .i64 m, .int .i64 s], .int .i64 k] w fun e w' => e = .returned (.tuple #[.int .i64 (toN m s k).1, .int .i64 (toN m s k).2]) ∧ Below w.heap.size w w' := by
  have HT : Hid (toN m s k = (0, 1)) := by unfold Hid toN; rw [if_pos hk]
  rcases hk with h | h
  · go_enter Try.func42, Try.ntmps42
    go_wp2
    go_ret2
    exact ⟨ret_two HT.out, (Below.refl _ w).alloc (Nat.le_refl _) _⟩
  · go_enter Try.func42, Try.ntmps42
    go_wp2
    go_ret2
    exact ⟨ret_two HT.out, (Below.refl _ w).alloc (Nat.le_refl _) _⟩

set_option maxHeartbeats 400000 in
theorem Try.To_up (m s k : Int) (hx : mayB m s = true) (h0 : 0 ≤ k) (h6 : k ≤ 6) (hk : s ≤ k) (w : World) :
    Calls Try.prog 42 #[.agg #[.int .i64 m, .int .i64 s], .int .i64 k] w fun e w' => e = .returned (.tuple #[.int .i64 (toN m s k).1, .int .i64 (toN m s k).2]) ∧ Below w.heap.size w w' := by
  obtain ⟨a1, a2, a3, a4⟩ := mayB_of hx
  clear hx
  have e1 : IntKind.i64.wrap (k - s) = k - s := IntWalk.i64_in _ (by omega)
  have sb : -1000000000000000000 ≤ m * p10 (k - s) ∧ m * p10 (k - s) ≤ 1000000000000000000 := by
    have := scale_bd (s := s + 6 - k) (by omega) (by omega) a3 a4
    rwa [show 6 - (s + 6 - k) = k - s from by omega] at this
  obtain ⟨x, hx⟩ : ∃ x, x = m * p10 (k - s) := ⟨_, rfl⟩
  have hw : wrap64 (m * p10 (k - s)) = x := by rw [hx]; unfold wrap64; omega
  by_cases hf : fitB x = true
  · have HT : Hid (toN m s k = (x, 0)) := by unfold Hid toN; rw [if_neg (by omega), if_pos hk, ← hx, if_pos hf]
    have HF := Lib.hid hf
    clear hx hf sb
    go_enter Try.func42, Try.ntmps42
    go_wp2_with (first | (go_at_call 67; refine (Try.may_in _ _ (by omega) (by omega) (by omega) (by omega) _).mono ?_; rintro e w' ⟨rfl, rfl⟩) | (go_at_call 68; refine (Try.tens_int _ (by omega) (by omega) _).mono ?_; rintro e w' ⟨rfl, rfl⟩) | (go_at_call 69; refine (Try.fits_yes HF.out _).mono ?_; rintro e w' ⟨rfl, rfl⟩))
    go_ret2
    exact ⟨ret_two HT.out, ((Below.refl _ w).alloc (Nat.le_refl _) _).alloc (by simp) _⟩
  · have HT : Hid (toN m s k = (0, 2)) := by unfold Hid toN; rw [if_neg (by omega), if_pos hk, ← hx, if_neg hf]
    have HF := Lib.hid hf
    clear hx hf sb
    go_enter Try.func42, Try.ntmps42
    go_wp2_with (first | (go_at_call 67; refine (Try.may_in _ _ (by omega) (by omega) (by omega) (by omega) _).mono ?_; rintro e w' ⟨rfl, rfl⟩) | (go_at_call 68; refine (Try.tens_int _ (by omega) (by omega) _).mono ?_; rintro e w' ⟨rfl, rfl⟩) | (go_at_call 69; refine (Try.fits_no HF.out _).mono ?_; rintro e w' ⟨rfl, rfl⟩))
    go_ret2
    exact ⟨ret_two HT.out, ((Below.refl _ w).alloc (Nat.le_refl _) _).alloc (by simp) _⟩

set_option maxHeartbeats 400000 in
theorem Try.To_down (m s k : Int) (hx : mayB m s = true) (h0 : 0 ≤ k) (h6 : k ≤ 6) (hk : k < s) (w : World) :
    Calls Try.prog 42 #[.agg #[.int .i64 m, .int .i64 s], .int .i64 k] w fun e w' => e = .returned (.tuple #[.int .i64 (toN m s k).1, .int .i64 (toN m s k).2]) ∧ Below w.heap.size w w' := by
  obtain ⟨a1, a2, a3, a4⟩ := mayB_of hx
  clear hx
  have e1 : IntKind.i64.wrap (s - k) = s - k := IntWalk.i64_in _ (by omega)
  have hp := p10_pos (s - k)
  have hp0 : (p10 (s - k) == 0) = false := by simp; omega
  by_cases hz : m.tmod (p10 (s - k)) = 0
  · have hz' : (m.tmod (p10 (s - k)) == 0) = true := by simpa using hz
    by_cases hf : fitB (m.tdiv (p10 (s - k))) = true
    · have HT : Hid (toN m s k = (m.tdiv (p10 (s - k)), 0)) := by unfold Hid toN; rw [if_neg (by omega), if_neg (by omega), if_pos hz, if_pos hf]
      have HF := Lib.hid hf
      clear hf hz
      go_enter Try.func42, Try.ntmps42
      go_wp2_with (first | (go_at_call 67; refine (Try.may_in _ _ (by omega) (by omega) (by omega) (by omega) _).mono ?_; rintro e w' ⟨rfl, rfl⟩) | (go_at_call 68; refine (Try.tens_int _ (by omega) (by omega) _).mono ?_; rintro e w' ⟨rfl, rfl⟩) | (go_at_call 69; refine (Try.fits_yes HF.out _).mono ?_; rintro e w' ⟨rfl, rfl⟩))
      go_ret2
      exact ⟨ret_two HT.out, ((Below.refl _ w).alloc (Nat.le_refl _) _).alloc (by simp) _⟩
    · have HT : Hid (toN m s k = (0, 2)) := by unfold Hid toN; rw [if_neg (by omega), if_neg (by omega), if_pos hz, if_neg hf]
      have HF := Lib.hid hf
      clear hf hz
      go_enter Try.func42, Try.ntmps42
      go_wp2_with (first | (go_at_call 67; refine (Try.may_in _ _ (by omega) (by omega) (by omega) (by omega) _).mono ?_; rintro e w' ⟨rfl, rfl⟩) | (go_at_call 68; refine (Try.tens_int _ (by omega) (by omega) _).mono ?_; rintro e w' ⟨rfl, rfl⟩) | (go_at_call 69; refine (Try.fits_no HF.out _).mono ?_; rintro e w' ⟨rfl, rfl⟩))
      go_ret2
      exact ⟨ret_two HT.out, ((Below.refl _ w).alloc (Nat.le_refl _) _).alloc (by simp) _⟩
  · have hz' : (m.tmod (p10 (s - k)) == 0) = false := by simpa using hz
    have HT : Hid (toN m s k = (0, 21)) := by unfold Hid toN; rw [if_neg (by omega), if_neg (by omega), if_neg hz]
    clear hz
    go_enter Try.func42, Try.ntmps42
    go_wp2_with (first | (go_at_call 67; refine (Try.may_in _ _ (by omega) (by omega) (by omega) (by omega) _).mono ?_; rintro e w' ⟨rfl, rfl⟩) | (go_at_call 68; refine (Try.tens_int _ (by omega) (by omega) _).mono ?_; rintro e w' ⟨rfl, rfl⟩))
    go_ret2
    exact ⟨ret_two HT.out, ((Below.refl _ w).alloc (Nat.le_refl _) _).alloc (by simp) _⟩

theorem Try.To_any (m s k : Int) (hx : mayB m s = true) (w : World) :
    Calls Try.prog 42 #[.agg #[.int .i64 m, .int .i64 s], .int .i64 k] w fun e w' => e = .returned (.tuple #[.int .i64 (toN m s k).1, .int .i64 (toN m s k).2]) ∧ Below w.heap.size w w' := by
  by_cases h : k < 0 ∨ 6 < k
  · exact Try.To_arg m s k h w
  · by_cases hs : s ≤ k
    · exact Try.To_up m s k hx (by omega) (by omega) hs w
    · exact Try.To_down m s k hx (by omega) (by omega) (by omega) w
#print axioms Try.To_any
end Go.Proofs
/- fixed.take, Int and Read. Conditions: a text that a string can be. -/
namespace Go.Proofs
open Go.RowKit Go.Fx
attribute [local go_sem] Oper.semAt_some

theorem Try.end_panic (b : Nat) (l : List UInt8) (hl : l ≠ []) (w : World) (hc : w.cell? ⟨b, 0, none⟩ = some (.string ⟨l.toArray⟩)) :
    Calls Try.prog 81 #[.pointer (some ⟨b, 0, none⟩)] w fun e w' => e = .panicked [{ v := .iface 39 (.int .i64 20), recovered := false }] ∧ w = w' :=
  Try.end_some b l hl w hc
theorem mode_same {c : Frame} {m : FrameMode} (h : c.mode = m) : c = { c with mode := m } := by subst h; rfl
theorem Try.catch_idle (p q : Addr) (w : World) :
    CallsD Try.prog 79 #[.pointer (some p), .pointer (some q)] .returning w fun e u' w' => e = .returned (.tuple #[]) ∧ u' = .returning ∧ w' = w := by
  refine callsD_of_wpS Try.func79 rfl fun c₀ cs hu => ?_
  simp only [Try.ntmps79, List.size_toArray, List.length_cons, List.length_nil, Nat.reduceAdd, Nat.reduceSub, Array.replicate_succ, Array.replicate_zero, List.push_toArray, List.append_toArray, List.nil_append, List.cons_append]
  apply wpS_seq
  apply wpS_region
  simp [wpOpsS, go_sem, recoverD, hu, Exit.thenS]
  refine wpS_of_wp ?_
  go_wp2
  exact ⟨rfl, .returning, by rw [← mode_same hu], .tuple #[], by simp [results, Try.results79, go_sem], rfl, rfl, rfl⟩
theorem Try.catch_panic (b c : Nat) (hbc : b ≠ c) (w : World) (k : Int) (older : List PanicEntry) (u0 u1 u2 : Value) (h0 : w.cell? ⟨b, 0, none⟩ = some u0) (h1 : w.cell? ⟨b, 1, none⟩ = some u1) (h2 : w.cell? ⟨c, 0, none⟩ = some u2)
    (f0 : w.frozen? ⟨b, 0, none⟩ = false) (f1 : w.frozen? ⟨b, 1, none⟩ = false) (f2 : w.frozen? ⟨c, 0, none⟩ = false) :
    CallsD Try.prog 79 #[.pointer (some ⟨b, 0, none⟩), .pointer (some ⟨c, 0, none⟩)] (.panicking ({ v := .iface 39 (.int .i64 k), recovered := false } :: older)) w fun e u' w' =>
      e = .returned (.tuple #[]) ∧ u' = .panicking ({ v := .iface 39 (.int .i64 k), recovered := true } :: older) ∧ w' = (((w.setCell ⟨b, 0, none⟩ (.int .i64 0)).setCell ⟨b, 1, none⟩ (.int .i64 0)).setCell ⟨c, 0, none⟩ (.int .i64 k)).drew := by
  refine callsD_of_wpS Try.func79 rfl fun c₀ cs hu => ?_
  simp only [Try.ntmps79, List.size_toArray, List.length_cons, List.length_nil, Nat.reduceAdd, Nat.reduceSub, Array.replicate_succ, Array.replicate_zero, List.push_toArray, List.append_toArray, List.nil_append, List.cons_append]
  apply wpS_seq
  apply wpS_region
  simp [wpOpsS, go_sem, recoverD, hu, Exit.thenS]
  refine wpS_of_wp ?_
  clear hu
  have hta : ∀ W, (Instr.typeAssert (.iface 39 (.int .i64 k)) 20 39 false).run Try.prog W = .ok (.int .i64 k) W := fun _ => by kernel_rfl
  go_wp2
  go_region
  exact ⟨rfl, _, rfl, .tuple #[], by simp [results, Try.results79, go_sem], rfl, rfl, rfl⟩

/-- What take tells: the number's two parts, and the error. -/
def takeN : Option (Int × Nat × List UInt8) → Int × Nat × Int
  | none => (0, 0, 20)
  | some (m, s, r) => if r = [] then (if fitB (least s m).1 = true then ((least s m).1, (least s m).2, 0) else (0, 0, 2)) else (0, 0, 20)

theorem boxed_at {W : World} {B : Nat} {t : TypeId} {v : Value} (h : B = W.heap.size) : Boxed (W.alloc (.cells #[v] t)) B t v := by subst h; exact Boxed.new _ _ _
/-- Where take stands: its two results, and its reader. -/
structure TakeSt (w : World) (r : List UInt8) (x y k : Int) (W : World) : Prop where
  c0 : W.cell? ⟨w.heap.size, 0, none⟩ = some (.int .i64 x)
  c1 : W.cell? ⟨w.heap.size, 1, none⟩ = some (.int .i64 y)
  c2 : W.cell? ⟨w.heap.size + 1, 0, none⟩ = some (.int .i64 k)
  f0 : W.frozen? ⟨w.heap.size, 0, none⟩ = false
  f1 : W.frozen? ⟨w.heap.size, 1, none⟩ = false
  f2 : W.frozen? ⟨w.heap.size + 1, 0, none⟩ = false
  box : Boxed W (w.heap.size + 1 + 1) 141 (.string ⟨r.toArray⟩)
  below : Below w.heap.size w W
theorem take_cells0 {w w1 : World} {v : Value} (h : But (w.heap.size + 1 + 1) (((w.alloc (.cells #[.int .i64 0, .int .i64 0] 58)).alloc (.cells #[.int .i64 0] 39)).alloc (.cells #[v] 141)) w1) :
    w1.cell? ⟨w.heap.size, 0, none⟩ = some (.int .i64 0) ∧ w1.cell? ⟨w.heap.size, 1, none⟩ = some (.int .i64 0) ∧ w1.cell? ⟨w.heap.size + 1, 0, none⟩ = some (.int .i64 0) ∧
    w1.frozen? ⟨w.heap.size, 0, none⟩ = false ∧ w1.frozen? ⟨w.heap.size, 1, none⟩ = false ∧ w1.frozen? ⟨w.heap.size + 1, 0, none⟩ = false ∧ Below w.heap.size w w1 := by
  refine ⟨?_, ?_, ?_, ?_, ?_, ?_, ?_⟩
  · rw [h.cell (by simp; omega) (by omega)]; simp [go_sem]
  · rw [h.cell (by simp; omega) (by omega)]; simp [go_sem]
  · rw [h.cell (by simp) (by omega)]; simp [go_sem]
  · rw [h.frozen (by simp; omega) (by omega)]; simp [go_sem]
  · rw [h.frozen (by simp; omega) (by omega)]; simp [go_sem]
  · rw [h.frozen (by simp) (by omega)]; simp [go_sem]
  · exact ((((Below.refl _ w).alloc (Nat.le_refl _) _).alloc (by simp) _).alloc (by simp; omega) _).trans (h.below (by omega) (by simp; omega))
theorem take_cells {w w1 : World} {r : List UInt8} {v : Value} (h : But (w.heap.size + 1 + 1) (((w.alloc (.cells #[.int .i64 0, .int .i64 0] 58)).alloc (.cells #[.int .i64 0] 39)).alloc (.cells #[v] 141)) w1) (hb : Boxed w1 (w.heap.size + 1 + 1) 141 (.string ⟨r.toArray⟩)) :
    TakeSt w r 0 0 0 w1 := by
  obtain ⟨a, b, c, d, e, f, g⟩ := take_cells0 h
  exact ⟨a, b, c, d, e, f, hb, g⟩
theorem TakeSt.grown {w W W' : World} {r : List UInt8} {x y k : Int} (h : TakeSt w r x y k W) (hb : Below W.heap.size W W') : TakeSt w r x y k W' := by
  have hl : w.heap.size + 1 + 1 < W.heap.size := h.box.lt
  obtain ⟨hc, hf⟩ := bcell hb
  exact ⟨(hc _ _ (by omega)).trans h.c0, (hc _ _ (by omega)).trans h.c1, (hc _ _ (by omega)).trans h.c2, (hf _ _ (by omega)).trans h.f0, (hf _ _ (by omega)).trans h.f1, (hf _ _ (by omega)).trans h.f2,
    Boxed.below h.box hb hl, h.below.trans (hb.mono h.below.size)⟩
theorem TakeSt.put {w W : World} {r : List UInt8} {x y k : Int} (h : TakeSt w r x y k W) (x' y' : Int) :
    TakeSt w r x' y' k ((W.setCell ⟨w.heap.size, 0, none⟩ (.int .i64 x')).setCell ⟨w.heap.size, 1, none⟩ (.int .i64 y')) := by
  obtain ⟨c0, c1, c2, f0, f1, f2, hb, hB⟩ := h
  exact ⟨by simp [go_sem, c0], by simp [go_sem, c1], by simp [go_sem, c2], by simp [go_sem, f0], by simp [go_sem, f1], by simp [go_sem, f2],
    Boxed.apart (Boxed.apart hb (by simp; omega) _) (by simp; omega) _, (hB.setCell (by simp) _).setCell (by simp) _⟩
set_option maxHeartbeats 400000 in
theorem Try.take_none (F : FuncId) (hF : ∀ args W, (callFunc F args).run Try.prog W = .ok (.enter F args) W) (l : List UInt8) (H : ∀ (b : Nat) (W : World), Boxed W b 141 (.string ⟨l.toArray⟩) → Calls Try.prog F #[.pointer (some ⟨b, 0, none⟩)] W fun e w' => e = .panicked [{ v := .iface 39 (.int .i64 20), recovered := false }] ∧ But b W w') (w : World) :
    Calls Try.prog 59 #[.string ⟨l.toArray⟩, .func (.func F) #[] #[]] w fun e w' => e = .returned (.tuple #[.agg #[.int .i64 0, .int .i64 0], .int .i64 20]) ∧ Below w.heap.size w w' := by
  have hmf : ∀ (fn : Fn) (first cap : Array Value) (w : World), (Instr.makeFunc fn first cap).run Try.prog w = .ok (.func fn first cap) w := fun _ _ _ _ => rfl
  have HH := Lib.hid H
  clear H
  go_enter_defers Try.func59, Try.ntmps59
  go_wp2_with (refine (HH.out (w.heap.size + 1 + 1) _ (boxed_at (by simp))).mono ?_; rintro e w1 ⟨rfl, hk⟩; obtain ⟨c0, c1, c2, f0, f1, f2, hB⟩ := take_cells0 hk)
  refine leaves_cons (f := 79) (args := #[.pointer (some ⟨w.heap.size, 0, none⟩), .pointer (some ⟨w.heap.size + 1, 0, none⟩)]) (by simp) (by simp [go_sem]) ?_
  refine (Try.catch_panic w.heap.size (w.heap.size + 1) (by omega) _ 20 [] _ _ _ c0 c1 c2 f0 f1 f2).mono ?_
  rintro e u' w'' ⟨rfl, rfl, rfl⟩
  refine ⟨.tuple #[.agg #[.int .i64 0, .int .i64 0], .int .i64 20], by simp [results, Try.results59, go_sem, c0, c1, c2], rfl, ?_⟩
  exact (((hB.setCell (by simp) _).setCell (by simp) _).setCell (by simp) _).drew

set_option maxHeartbeats 800000 in
theorem Try.take_rest (F : FuncId) (hF : ∀ args W, (callFunc F args).run Try.prog W = .ok (.enter F args) W) (l : List UInt8) (m : Int) (s : Nat) (r : List UInt8) (x : Int) (y : Nat) (hl : least s m = (x, y)) (hm0 : -9223372036854775807 ≤ m) (hm1 : m ≤ 9223372036854775807) (hs : s ≤ 6) (hr : r ≠ [])
    (H : ∀ (b : Nat) (W : World), Boxed W b 141 (.string ⟨l.toArray⟩) → Calls Try.prog F #[.pointer (some ⟨b, 0, none⟩)] W fun e w' => e = .returned (.agg #[.int .i64 m, .int .i64 (s : Int)]) ∧ Boxed w' b 141 (.string ⟨r.toArray⟩) ∧ But b W w') (w : World) :
    Calls Try.prog 59 #[.string ⟨l.toArray⟩, .func (.func F) #[] #[]] w fun e w' => e = .returned (.tuple #[.agg #[.int .i64 0, .int .i64 0], .int .i64 20]) ∧ Below w.heap.size w w' := by
  have hmf : ∀ (fn : Fn) (first cap : Array Value) (w : World), (Instr.makeFunc fn first cap).run Try.prog w = .ok (.func fn first cap) w := fun _ _ _ _ => rfl
  have HH := Lib.hid H
  have HL : Hid (∀ W, Calls Try.prog 80 #[.agg #[.int .i64 m, .int .i64 (s : Int)]] W fun e w' => e = .returned (.agg #[.int .i64 x, .int .i64 (y : Int)]) ∧ Below W.heap.size W w') := by
    intro W
    have := Try.Least_any m s hm0 hm1 hs W
    rwa [hl] at this
  have HR := Lib.hid hr
  clear H hr hl
  go_enter_defers Try.func59, Try.ntmps59
  go_wp2_with (refine (HH.out (w.heap.size + 1 + 1) _ (boxed_at (by simp))).mono ?_; rintro e w1 ⟨rfl, hb, hk⟩; have st := take_cells hk hb; clear hk hb)
  go_wp2_with (go_at_call 80; refine (HL.out _).mono ?_; rintro e w2 ⟨rfl, hg⟩; have st2 := st.grown hg; clear st hg; obtain ⟨c0, c1, c2, f0, f1, f2, hb, hB⟩ := id st2)
  have st3 := st2.put x (y : Int)
  clear c0 c1 c2 f0 f1 f2 hb hB st2
  generalize World.setCell (World.setCell w2 _ _) _ _ = W3 at st3 ⊢
  obtain ⟨c0, c1, c2, f0, f1, f2, hb, hB⟩ := st3
  go_wp2_with (go_at_call 81; refine (Try.end_panic _ r HR.out _ hb.cell).mono ?_; rintro e w3 ⟨rfl, rfl⟩)
  refine leaves_cons (f := 79) (args := #[.pointer (some ⟨w.heap.size, 0, none⟩), .pointer (some ⟨w.heap.size + 1, 0, none⟩)]) (by simp) (by simp [go_sem]) ?_
  refine (Try.catch_panic w.heap.size (w.heap.size + 1) (by omega) _ 20 [] _ _ _ c0 c1 c2 f0 f1 f2).mono ?_
  rintro e u' w'' ⟨rfl, rfl, rfl⟩
  refine ⟨.tuple #[.agg #[.int .i64 0, .int .i64 0], .int .i64 20], by simp [results, Try.results59, go_sem, c0, c1, c2], rfl, ?_⟩
  exact (((hB.setCell (by simp) _).setCell (by simp) _).setCell (by simp) _).drew

set_option maxHeartbeats 800000 in
theorem Try.take_full (F : FuncId) (hF : ∀ args W, (callFunc F args).run Try.prog W = .ok (.enter F args) W) (l : List UInt8) (m : Int) (s : Nat) (r : List UInt8) (x : Int) (y : Nat) (hl : least s m = (x, y)) (hm0 : -9223372036854775807 ≤ m) (hm1 : m ≤ 9223372036854775807) (hs : s ≤ 6) (hr : ¬ fitB x = true) (hr0 : r = [])
    (H : ∀ (b : Nat) (W : World), Boxed W b 141 (.string ⟨l.toArray⟩) → Calls Try.prog F #[.pointer (some ⟨b, 0, none⟩)] W fun e w' => e = .returned (.agg #[.int .i64 m, .int .i64 (s : Int)]) ∧ Boxed w' b 141 (.string ⟨r.toArray⟩) ∧ But b W w') (w : World) :
    Calls Try.prog 59 #[.string ⟨l.toArray⟩, .func (.func F) #[] #[]] w fun e w' => e = .returned (.tuple #[.agg #[.int .i64 0, .int .i64 0], .int .i64 2]) ∧ Below w.heap.size w w' := by
  have hmf : ∀ (fn : Fn) (first cap : Array Value) (w : World), (Instr.makeFunc fn first cap).run Try.prog w = .ok (.func fn first cap) w := fun _ _ _ _ => rfl
  have HH := Lib.hid H
  have HL : Hid (∀ W, Calls Try.prog 80 #[.agg #[.int .i64 m, .int .i64 (s : Int)]] W fun e w' => e = .returned (.agg #[.int .i64 x, .int .i64 (y : Int)]) ∧ Below W.heap.size W w') := by
    intro W
    have := Try.Least_any m s hm0 hm1 hs W
    rwa [hl] at this
  have HR := Lib.hid hr
  clear H hr hl
  subst hr0
  go_enter_defers Try.func59, Try.ntmps59
  go_wp2_with (refine (HH.out (w.heap.size + 1 + 1) _ (boxed_at (by simp))).mono ?_; rintro e w1 ⟨rfl, hb, hk⟩; have st := take_cells hk hb; clear hk hb)
  go_wp2_with (go_at_call 80; refine (HL.out _).mono ?_; rintro e w2 ⟨rfl, hg⟩; have st2 := st.grown hg; clear st hg; obtain ⟨c0, c1, c2, f0, f1, f2, hb, hB⟩ := id st2)
  have st3 := st2.put x (y : Int)
  clear c0 c1 c2 f0 f1 f2 hb hB st2
  generalize World.setCell (World.setCell w2 _ _) _ _ = W3 at st3 ⊢
  obtain ⟨c0, c1, c2, f0, f1, f2, hb, hB⟩ := st3
  go_wp2_with (first | (go_at_call 81; refine (Try.end_none _ _ hb.cell).mono ?_; rintro e w3 ⟨rfl, rfl⟩) | (go_at_call 69; refine (Try.fits_no HR.out _).mono ?_; rintro e w' ⟨rfl, rfl⟩))
  refine leaves_cons (f := 79) (args := #[.pointer (some ⟨w.heap.size, 0, none⟩), .pointer (some ⟨w.heap.size + 1, 0, none⟩)]) (by simp) (by simp [go_sem]) ?_
  refine (Try.catch_panic w.heap.size (w.heap.size + 1) (by omega) _ 2 [] _ _ _ c0 c1 c2 f0 f1 f2).mono ?_
  rintro e u' w'' ⟨rfl, rfl, rfl⟩
  refine ⟨.tuple #[.agg #[.int .i64 0, .int .i64 0], .int .i64 2], by simp [results, Try.results59, go_sem, c0, c1, c2], rfl, ?_⟩
  exact (((hB.setCell (by simp) _).setCell (by simp) _).setCell (by simp) _).drew

set_option maxHeartbeats 800000 in
theorem Try.take_ok (F : FuncId) (hF : ∀ args W, (callFunc F args).run Try.prog W = .ok (.enter F args) W) (l : List UInt8) (m : Int) (s : Nat) (r : List UInt8) (x : Int) (y : Nat) (hl : least s m = (x, y)) (hm0 : -9223372036854775807 ≤ m) (hm1 : m ≤ 9223372036854775807) (hs : s ≤ 6) (hr : fitB x = true) (hr0 : r = [])
    (H : ∀ (b : Nat) (W : World), Boxed W b 141 (.string ⟨l.toArray⟩) → Calls Try.prog F #[.pointer (some ⟨b, 0, none⟩)] W fun e w' => e = .returned (.agg #[.int .i64 m, .int .i64 (s : Int)]) ∧ Boxed w' b 141 (.string ⟨r.toArray⟩) ∧ But b W w') (w : World) :
    Calls Try.prog 59 #[.string ⟨l.toArray⟩, .func (.func F) #[] #[]] w fun e w' => e = .returned (.tuple #[.agg #[.int .i64 x, .int .i64 (y : Int)], .int .i64 0]) ∧ Below w.heap.size w w' := by
  have hmf : ∀ (fn : Fn) (first cap : Array Value) (w : World), (Instr.makeFunc fn first cap).run Try.prog w = .ok (.func fn first cap) w := fun _ _ _ _ => rfl
  have HH := Lib.hid H
  have HL : Hid (∀ W, Calls Try.prog 80 #[.agg #[.int .i64 m, .int .i64 (s : Int)]] W fun e w' => e = .returned (.agg #[.int .i64 x, .int .i64 (y : Int)]) ∧ Below W.heap.size W w') := by
    intro W
    have := Try.Least_any m s hm0 hm1 hs W
    rwa [hl] at this
  have HR := Lib.hid hr
  clear H hr hl
  subst hr0
  go_enter_defers Try.func59, Try.ntmps59
  go_wp2_with (refine (HH.out (w.heap.size + 1 + 1) _ (boxed_at (by simp))).mono ?_; rintro e w1 ⟨rfl, hb, hk⟩; have st := take_cells hk hb; clear hk hb)
  go_wp2_with (go_at_call 80; refine (HL.out _).mono ?_; rintro e w2 ⟨rfl, hg⟩; have st2 := st.grown hg; clear st hg; obtain ⟨c0, c1, c2, f0, f1, f2, hb, hB⟩ := id st2)
  have st3 := st2.put x (y : Int)
  clear c0 c1 c2 f0 f1 f2 hb hB st2
  generalize World.setCell (World.setCell w2 _ _) _ _ = W3 at st3 ⊢
  obtain ⟨c0, c1, c2, f0, f1, f2, hb, hB⟩ := st3
  go_wp2_with (first | (go_at_call 81; refine (Try.end_none _ _ hb.cell).mono ?_; rintro e w3 ⟨rfl, rfl⟩) | (go_at_call 69; refine (Try.fits_yes HR.out _).mono ?_; rintro e w' ⟨rfl, rfl⟩))
  refine leaves_cons (f := 79) (args := #[.pointer (some ⟨w.heap.size, 0, none⟩), .pointer (some ⟨w.heap.size + 1, 0, none⟩)]) (by simp) (by simp [go_sem]) ?_
  refine (Try.catch_idle ⟨w.heap.size, 0, none⟩ ⟨w.heap.size + 1, 0, none⟩ _).mono ?_
  rintro e u' w'' ⟨rfl, rfl, rfl⟩
  refine ⟨.tuple #[.agg #[.int .i64 x, .int .i64 (y : Int)], .int .i64 0], by simp [results, Try.results59, go_sem, c0, c1, c2], rfl, ?_⟩
  exact ((hB.setCell (by simp) _).setCell (by simp) _).setCell (by simp) _

/-- The text's number, its least form, or the error: what take tells. -/
theorem Try.take_any (F : FuncId) (hF : ∀ args W, (callFunc F args).run Try.prog W = .ok (.enter F args) W) (l : List UInt8) (o : Option (Int × Nat × List UInt8))
    (ho : ∀ m s r, o = some (m, s, r) → -9223372036854775807 ≤ m ∧ m ≤ 9223372036854775807 ∧ s ≤ 6)
    (H : ∀ (b : Nat) (W : World), Boxed W b 141 (.string ⟨l.toArray⟩) → Calls Try.prog F #[.pointer (some ⟨b, 0, none⟩)] W fun e w' => NumPost b o W e w') (w : World) :
    Calls Try.prog 59 #[.string ⟨l.toArray⟩, .func (.func F) #[] #[]] w fun e w' => e = .returned (.tuple #[.agg #[.int .i64 (takeN o).1, .int .i64 ((takeN o).2.1 : Int)], .int .i64 (takeN o).2.2]) ∧ Below w.heap.size w w' := by
  match o, H, ho with
  | none, H, _ => exact Try.take_none F hF l H w
  | some (m, s, r), H, ho =>
    obtain ⟨h0, h1, h2⟩ := ho m s r rfl
    by_cases hr : r = []
    · by_cases hf : fitB (least s m).1 = true
      · have hT : takeN (some (m, s, r)) = ((least s m).1, (least s m).2, 0) := by simp only [takeN]; rw [if_pos hr, if_pos hf]
        rw [hT]
        exact Try.take_ok F hF l m s r _ _ rfl h0 h1 h2 hf hr H w
      · have hT : takeN (some (m, s, r)) = (0, 0, 2) := by simp only [takeN]; rw [if_pos hr, if_neg hf]
        rw [hT]
        exact Try.take_full F hF l m s r _ _ rfl h0 h1 h2 hf hr H w
    · have hT : takeN (some (m, s, r)) = (0, 0, 20) := by simp only [takeN]; rw [if_neg hr]
      rw [hT]
      exact Try.take_rest F hF l m s r _ _ rfl h0 h1 h2 hr H w
theorem sgn_bd (l : List UInt8) {v B : Int} (h0 : 0 ≤ v) (h1 : v ≤ B) : -B ≤ sgn l * v ∧ sgn l * v ≤ B := by
  rcases sgn_cases l with h | h <;> rw [h] <;> omega
theorem numI_bd (l : List UInt8) : ∀ m s r, numI l = some (m, s, r) → -9223372036854775807 ≤ m ∧ m ≤ 9223372036854775807 ∧ s ≤ 6 := by
  intro m s r h
  unfold numI at h
  split at h
  · rename_i hd
    cases h
    have hv := digs_val (tailIf 45 l) (m := 0) (a := 0) (k := 12) (by omega) (by decide) (by omega)
    have := sgn_bd l hv.1 (B := 1000000000000) (by have := hv.2; simp at this; omega)
    omega
  · cases h
theorem numR_bd (l : List UInt8) : ∀ m s r, numR l = some (m, s, r) → -9223372036854775807 ≤ m ∧ m ≤ 9223372036854775807 ∧ s ≤ 6 := by
  intro m s r h
  unfold numR numT at h
  split at h
  · rename_i hd
    have hv := digs_val (tailIf 45 l) (m := 0) (a := 0) (k := 12) (by omega) (by decide) (by omega)
    split at h
    · split at h
      · rename_i hq
        cases h
        have hv2 := digs_val ((tailIf 45 l).drop (digs (tailIf 45 l)).length).tail (m := valF 0 (digs (tailIf 45 l))) (a := 12) (k := 18) hv.1 hv.2 (by omega)
        have := sgn_bd l hv2.1 (B := 1000000000000000000) (by have := hv2.2; simp at this; omega)
        omega
      · cases h
    · cases h
      have := sgn_bd l hv.1 (B := 1000000000000) (by have := hv.2; simp at this; omega)
      omega
  · cases h

/-- What Int and Read tell of a text. -/
def intN (l : List UInt8) : Int × Nat × Int := takeN (numI l)
def readN (l : List UInt8) : Int × Nat × Int := takeN (numR l)

set_option maxHeartbeats 400000 in
theorem Try.Int_any (l : List UInt8) (hl : l.length ≤ 9223372036854775807) (w : World) :
    Calls Try.prog 36 #[.string ⟨l.toArray⟩] w fun e w' => e = .returned (.tuple #[.int .i64 (intN l).1, .int .i64 (intN l).2.2]) ∧ Below w.heap.size w w' := by
  have HT : Hid (∀ W, Calls Try.prog 59 #[.string ⟨l.toArray⟩, .func (.func 60) #[] #[]] W fun e w' => e = .returned (.tuple #[.agg #[.int .i64 (intN l).1, .int .i64 ((intN l).2.1 : Int)], .int .i64 (intN l).2.2]) ∧ Below W.heap.size W w') :=
    fun W => Try.take_any 60 (fun _ _ => by kernel_rfl) l (numI l) (numI_bd l) (fun b W h => Try.Int1_any h hl) W
  generalize intN l = x at HT ⊢
  go_enter Try.func36, Try.ntmps36
  go_wp2_with (go_at_call 59; refine (HT.out _).mono ?_; rintro e w1 ⟨rfl, hb⟩)
  go_ret2
  exact ⟨rfl, hb.alloc hb.size _⟩

set_option maxHeartbeats 400000 in
theorem Try.Read_any (l : List UInt8) (hl : l.length ≤ 9223372036854775807) (w : World) :
    Calls Try.prog 39 #[.string ⟨l.toArray⟩] w fun e w' => e = .returned (.tuple #[.agg #[.int .i64 (readN l).1, .int .i64 ((readN l).2.1 : Int)], .int .i64 (readN l).2.2]) ∧ Below w.heap.size w w' := by
  have HT : Hid (∀ W, Calls Try.prog 59 #[.string ⟨l.toArray⟩, .func (.func 64) #[] #[]] W fun e w' => e = .returned (.tuple #[.agg #[.int .i64 (readN l).1, .int .i64 ((readN l).2.1 : Int)], .int .i64 (readN l).2.2]) ∧ Below W.heap.size W w') :=
    fun W => Try.take_any 64 (fun _ _ => by kernel_rfl) l (numR l) (numR_bd l) (fun b W h => Try.Read1_any h hl) W
  generalize readN l = x at HT ⊢
  go_enter Try.func39, Try.ntmps39
  go_wp2_with (go_at_call 59; refine (HT.out _).mono ?_; rintro e w1 ⟨rfl, hb⟩; obtain ⟨hc, hf⟩ := bcell hb; have hz : w.heap.size < w1.heap.size := by have := hb.size; simp at this; omega)
  refine bodyPost_ret (v := .tuple #[.agg #[.int .i64 x.1, .int .i64 (x.2.1 : Int)], .int .i64 x.2.2]) (by simp [results, Try.results39, go_sem, hc]) rfl ⟨rfl, ?_⟩
  exact ((((Below.refl _ w).alloc (Nat.le_refl _) _).trans (hb.mono (by simp))).setCell (by simp) _).setCell (by simp) _
#print axioms Try.Read_any
#print axioms Try.Int_any
end Go.Proofs
