/- Slices of words in this program, and entrepotlaw03.its and the document's own Same, as contracts. Conditions: lists of at most two million words. -/
import Derived.Test.YtlgdhopiifoikaaSeek
import Derived.Laws.AppendOwn
import Derived.Lib.QuietBelow
import Derived.RangeFuncRecord
namespace Go.Wds
def wordCells (ps : List (Nat × Nat)) : List Value := ps.flatMap fun p => [.int .i64 (p.1 : Int), .int .i64 (p.2 : Int)]
theorem wordCells_snoc (ps : List (Nat × Nat)) (a b : Nat) : wordCells (ps ++ [(a, b)]) = wordCells ps ++ [.int .i64 (a : Int), .int .i64 (b : Int)] := by simp [wordCells]
theorem take_get {α : Type} {l : List α} {k : Nat} {x : α} (h : l[k]? = some x) : l.take (k + 1) = l.take k ++ [x] := by
  obtain ⟨hk, rfl⟩ := List.getElem?_eq_some_iff.1 h
  rw [List.take_succ_eq_append_getElem hk]
theorem wordCells_get : ∀ {ps : List (Nat × Nat)} {i a b : Nat}, ps[i]? = some (a, b) →
    (wordCells ps)[i * 2]? = some (.int .i64 (a : Nat)) ∧ (wordCells ps)[i * 2 + 1]? = some (.int .i64 (b : Nat))
  | [], i, a, b, h => by simp at h
  | p :: ps, 0, a, b, h => by
    have e : p = (a, b) := by simpa using h
    subst e
    exact ⟨rfl, rfl⟩
  | p :: ps, i + 1, a, b, h => by
    have h' : ps[i]? = some (a, b) := by simpa using h
    have ih := wordCells_get h'
    have e : ∀ j, (wordCells (p :: ps))[(i + 1) * 2 + j]? = (wordCells ps)[i * 2 + j]? := fun j => by
      rw [show (i + 1) * 2 + j = (i * 2 + j) + 1 + 1 from by omega]; rfl
    exact ⟨(e 0).trans ih.1, (e 1).trans ih.2⟩
end Go.Wds
namespace Go
open Go.RowKit
theorem RowKit.Below.grownBy {n₀ : Nat} {w W : World} (h : Below n₀ w W) (hn : w.heap.size ≤ n₀) : w.grownBy W none :=
  ⟨h.os, h.tape, h.output, h.size, fun k hk _ => h.block k (by omega)⟩
theorem ownsRow_below {w w' : World} {base : Nat} {e : TypeId} {size : Nat} {v : Value} {k : Nat} {xs : List Value} {n₀ : Nat} (h : w.ownsRow base e size v k xs) (hb : Below n₀ w w') (hn : w.heap.size ≤ n₀) : w'.ownsRow base e size v k xs :=
  h.kept (hb.grownBy hn) (by cases v.ownBlock <;> simp)
theorem ownsRow_base {w : World} {base base' : Nat} {e : TypeId} {size : Nat} {v : Value} {k : Nat} {xs : List Value} (h : w.ownsRow base e size v k xs) (hb : base' ≤ base) : w.ownsRow base' e size v k xs := by
  refine ⟨h.1, h.2.imp id ?_⟩
  rintro ⟨g, cap, cur, h1, h2, h3⟩
  exact ⟨g, cap, cur, h1, Nat.le_trans hb h2, h3⟩
theorem grown_below {n₀ : Nat} {w wr w1 : World} {tmp : Obj} {v : Value} {e : TypeId} {size k : Nat} {xs : List Value} (hB : Below n₀ w wr) (hn : n₀ ≤ wr.heap.size) (hown : wr.ownsRow n₀ e size v k xs) (hgrow : (wr.alloc tmp).grownBy w1 v.ownBlock) : Below n₀ w w1 :=
  (hB.alloc hn tmp).grown hgrow (by simp; omega) (fun j e => (hown.lt j e).1)
end Go
namespace Go.Proofs
open Go.RowKit Go.Shelf Go.Wds Go.Sort

theorem Try.info31 : (Try.prog.info? 31).map (fun i => (i.zero, i.size, i.bytes)) = some (some (.agg #[.int .i64 0, .int .i64 0]), 2, 16) := by kernel_rfl
theorem Try.info33 : (Try.prog.info? 33).map (fun i => (i.zero, i.size, i.bytes)) = some (some (.agg #[.int .i64 0, .int .i64 0]), 2, 16) := by kernel_rfl
theorem cells_new (W : World) (c : Array Value) (t : TypeId) : ∀ (j : Nat) (u : Value), c.toList[j]? = some u → (W.alloc (.cells c t)).cell? ((⟨W.heap.size, 0, none⟩ : Addr).add j) = some u := by
  intro j u h
  have e := World.alloc_heap_new W (.cells c t)
  have hb : ((⟨W.heap.size, 0, none⟩ : Addr).add j) = ⟨W.heap.size, j, none⟩ := by
    unfold Addr.add
    split
    · rename_i h0; rw [h0]
    · simp
  rw [hb]
  unfold World.cell?
  simp only [e]
  simpa using h
theorem owns_empty2 (w : World) (e : TypeId) : (w.alloc (.cells #[] e)).ownsRow w.heap.size e 2 (.slice (some ⟨w.heap.size, 0, none⟩) 0 0) 0 [] :=
  ⟨rfl, .inr ⟨w.heap.size, 0, #[], rfl, Nat.le_refl _, World.alloc_heap_new w _, Nat.le_refl _, Nat.zero_le _, rfl, rfl⟩⟩

/-- v is a slice that holds the words ps in W. -/
def HasWords (W : World) (v : Value) (ps : List (Nat × Nat)) : Prop :=
  ∃ (ao : Option Addr) (cap : Nat), v = .slice ao ps.length cap ∧ ∀ (i a b : Nat), ps[i]? = some (a, b) → ∃ g, ao = some ⟨g, 0, none⟩ ∧ g < W.heap.size ∧
    W.cell? ⟨g, i * 2, none⟩ = some (.int .i64 (a : Nat)) ∧ W.cell? ⟨g, i * 2 + 1, none⟩ = some (.int .i64 (b : Nat))
theorem hasWords_of_owns {W : World} {base : Nat} {e : TypeId} {v : Value} {ps : List (Nat × Nat)} (h : W.ownsRow base e 2 v ps.length (wordCells ps)) : HasWords W v ps := by
  rcases h.2 with ⟨rfl, h0⟩ | ⟨g, cap, cur, rfl, h1, h2, _⟩
  · refine ⟨none, 0, by rw [h0], fun i a b hi => ?_⟩
    have := (List.getElem?_eq_some_iff.1 hi).1
    omega
  · refine ⟨_, cap, rfl, fun i a b hi => ⟨g, rfl, (Array.getElem?_eq_some_iff.1 h2).1, ?_⟩⟩
    have hc := World.ownsRow.cells h (g := g) rfl
    have hl := wordCells_get hi
    have e : ∀ j, ((⟨g, 0, none⟩ : Addr).add j) = ⟨g, j, none⟩ := fun j => by
      unfold Addr.add
      split
      · rename_i h0; rw [h0]
      · simp
    have h3 := hc _ _ hl.1
    have h4 := hc _ _ hl.2
    rw [e] at h3 h4
    exact ⟨h3, h4⟩
theorem HasWords.below {W W' : World} {v : Value} {ps : List (Nat × Nat)} (h : HasWords W v ps) {n₀ : Nat} (hb : Below n₀ W W') (hn : W.heap.size ≤ n₀) : HasWords W' v ps := by
  obtain ⟨ao, cap, rfl, h⟩ := h
  refine ⟨ao, cap, rfl, fun i a b hi => ?_⟩
  obtain ⟨g, h1, h2, h3, h4⟩ := h i a b hi
  have := hb.size
  exact ⟨g, h1, by omega, (hb.cell (p := ⟨g, _, none⟩) (by simp; omega)).trans h3, (hb.cell (p := ⟨g, _, none⟩) (by simp; omega)).trans h4⟩
theorem HasWords.later {W W' : World} {v : Value} {ps : List (Nat × Nat)} (h : HasWords W v ps) (hb : Below W.heap.size W W') : HasWords W' v ps := h.below hb (Nat.le_refl _)
theorem HasWords.nil (W : World) : HasWords W (.slice none 0 0) [] := ⟨none, 0, rfl, fun i a b hi => by simp at hi⟩
theorem HasWords.at {W : World} {g : Nat} {n cap : Nat} {ps : List (Nat × Nat)} (h : HasWords W (.slice (some ⟨g, 0, none⟩) n cap) ps) {i a b : Nat} (hi : ps[i]? = some (a, b)) :
    g < W.heap.size ∧ W.cell? ⟨g, i * 2, none⟩ = some (.int .i64 (a : Nat)) ∧ W.cell? ⟨g, i * 2 + 1, none⟩ = some (.int .i64 (b : Nat)) := by
  obtain ⟨ao, cap', e, h⟩ := h
  obtain ⟨g', h1, h2, h3, h4⟩ := h i a b hi
  cases e
  cases h1
  exact ⟨h2, h3, h4⟩
theorem HasWords.split {W : World} {v : Value} {ps : List (Nat × Nat)} (h : HasWords W v ps) : (ps = [] ∧ ∃ ao cap, v = .slice ao 0 cap) ∨ (0 < ps.length ∧ ∃ g cap, v = .slice (some ⟨g, 0, none⟩) ps.length cap ∧ g < W.heap.size) := by
  obtain ⟨ao, cap, rfl, h⟩ := h
  cases ps with
  | nil => exact .inl ⟨rfl, ao, cap, rfl⟩
  | cons p ps =>
    obtain ⟨a, b⟩ := p
    obtain ⟨g, rfl, h1, _⟩ := h 0 a b rfl
    exact .inr ⟨by simp, g, cap, rfl, h1⟩

set_option maxRecDepth 100000 in
set_option maxHeartbeats 1000000 in
theorem Try.its_calls (v : Value) (ps : List (Nat × Nat)) (w : World) (hlen : ps.length ≤ 2000000) (hv : HasWords w v ps) :
    Calls Try.prog 12 #[v] w fun e w' => ∃ v', e = .returned v' ∧ w'.ownsRow w.heap.size 33 2 v' ps.length (wordCells ps) ∧ Below w.heap.size w w' := by
  obtain ⟨i0, hi, hz0, hz1, hz2⟩ := info_parts Try.info33
  rcases hv.split with ⟨rfl, ao, cap, rfl⟩ | ⟨hpos, g, cap, rfl, hg⟩
  · clear hv hlen
    go_enter Try.func12, Try.ntmps12
    go_wp2
    go_loopw [3, 4] (fun v' i wr => i = .int .i64 0 ∧ wr.ownsRow w.heap.size 33 2 v' 0 [] ∧ Below w.heap.size w wr) (fun _ _ _ => 0)
    case atStart => exact ⟨rfl, owns_empty2 w 33, (Below.refl _ w).alloc (Nat.le_refl _) _⟩
    case round =>
      obtain ⟨rfl, hown, hB⟩ := hrel
      go_wp2
      go_ret
      exact ⟨_, rfl, hown, hB⟩
  · have HV := Lib.hid hv
    have HI := Lib.hid hi
    clear hv hi
    go_enter Try.func12, Try.ntmps12
    go_wp2
    go_loopw [3, 4] (fun v' i wr => ∃ k : Nat, k ≤ ps.length ∧ i = .int .i64 (k : Int) ∧ wr.ownsRow w.heap.size 33 2 v' k (wordCells (ps.take k)) ∧ Below w.heap.size w wr) (fun _ i _ => ps.length - (intOf i).toNat)
    case atStart => exact ⟨0, Nat.zero_le _, rfl, owns_empty2 w 33, (Below.refl _ w).alloc (Nat.le_refl _) _⟩
    case round =>
      obtain ⟨k, hk, rfl, hown, hB⟩ := hrel
      have hB1 : w.heap.size ≤ wr.heap.size := hB.size
      have hml : k + 1 ≤ maxLen := by unfold maxLen; omega
      have hml2 : (k + 1) * 16 ≤ 140737488355328 := by omega
      by_cases hlt : k < ps.length
      · obtain ⟨⟨a, b⟩, hp⟩ : ∃ p, ps[k]? = some p := ⟨_, List.getElem?_eq_getElem hlt⟩
        obtain ⟨_, x0, x1⟩ := HV.out.at hp
        replace x0 := (hB.cell (p := ⟨g, k * 2, none⟩) hg).trans x0
        replace x1 := (hB.cell (p := ⟨g, k * 2 + 1, none⟩) hg).trans x1
        have HT := Lib.hid (take_get hp)
        clear hp
        go_wp2_with (at_builtin; refine wpList_append_own _ rfl _ _ 24 rfl w.heap.size 33 i0 (.agg #[.int .i64 0, .int .i64 0]) 2 16 Try.underlying24 HI.out hz0 hz1 hz2 rfl (by decide) _ _ _ rfl (hown.alloc _) ⟨wr.heap.size, 0, none⟩ 1 1 [.int .i64 (a : Nat), .int .i64 (b : Nat)] rfl rfl (cells_new wr #[.int .i64 (a : Nat), .int .i64 (b : Nat)] 33) (by simp [Value.oneCell']) hml hml2 (by simp; omega) ?_; intro v' w1 hown' hgrow _)
        go_roundw
        case rel => exact ⟨k + 1, by omega, by go_num, by rw [HT.out, wordCells_snoc]; exact hown', grown_below hB hB1 hown hgrow⟩
        case measure => simp [intOf]; omega
      · have hkk : k = ps.length := by omega
        subst hkk
        rw [List.take_length] at hown
        have HO := Lib.hid hown
        clear hown
        go_wp2
        go_ret
        exact ⟨_, rfl, HO.out, hB⟩

set_option maxRecDepth 100000 in
set_option maxHeartbeats 1000000 in
theorem Try.Same_calls (v u : Value) (ps : List (Nat × Nat)) (w : World) (hlen : ps.length ≤ 2000000) (hv : HasWords w v ps) (hu : HasWords w u ps) :
    Calls Try.prog 11 #[v, u] w fun e w' => e = .returned (.bool true) ∧ Below w.heap.size w w' := by
  have hmx : Try.prog.follows .mixedOrders = true := by kernel_rfl
  rcases hv.split with ⟨rfl, ao, cap, rfl⟩ | ⟨hpos, g, cap, rfl, hg⟩
  · rcases hu.split with ⟨_, ao', cap', rfl⟩ | ⟨hpos, _⟩
    · clear hv hu hlen
      go_enter Try.func11, Try.ntmps11
      go_wp2
      go_loopw [5] (fun i wr => i = .int .i64 0 ∧ Below w.heap.size w wr) (fun _ _ => 0)
      case atStart => exact ⟨rfl, Below.refl _ w⟩
      case round =>
        obtain ⟨rfl, hB⟩ := hrel
        go_wp2
        go_ret
        exact ⟨rfl, hB⟩
    · simp at hpos
  · rcases hu.split with ⟨rfl, _⟩ | ⟨_, g', cap', rfl, hg'⟩
    · simp at hpos
    · have HV := Lib.hid hv
      have HU := Lib.hid hu
      clear hv hu
      go_enter Try.func11, Try.ntmps11
      go_wp2
      go_loopw [5] (fun i wr => ∃ k : Nat, k ≤ ps.length ∧ i = .int .i64 (k : Int) ∧ Below w.heap.size w wr) (fun i _ => ps.length - (intOf i).toNat)
      case atStart => exact ⟨0, Nat.zero_le _, rfl, Below.refl _ w⟩
      case round =>
        obtain ⟨k, hk, rfl, hB⟩ := hrel
        by_cases hlt : k < ps.length
        · obtain ⟨⟨a, b⟩, hp⟩ : ∃ p, ps[k]? = some p := ⟨_, List.getElem?_eq_getElem hlt⟩
          obtain ⟨_, x0, x1⟩ := HV.out.at hp
          obtain ⟨_, y0, y1⟩ := HU.out.at hp
          replace x0 := (hB.cell (p := ⟨g, k * 2, none⟩) hg).trans x0
          replace x1 := (hB.cell (p := ⟨g, k * 2 + 1, none⟩) hg).trans x1
          replace y0 := (hB.cell (p := ⟨g', k * 2, none⟩) hg').trans y0
          replace y1 := (hB.cell (p := ⟨g', k * 2 + 1, none⟩) hg').trans y1
          clear hp
          go_wp2
          go_quiet (fail)
          go_wp2
          go_roundw
          case rel => exact ⟨k + 1, by omega, by go_num, hB.trans ⟨rfl, rfl, rfl, Nat.le_refl _, fun _ _ => rfl⟩⟩
          case measure => simp [intOf]; omega
        · have hkk : k = ps.length := by omega
          subst hkk
          go_wp2
          go_ret
          exact ⟨rfl, hB⟩
#print axioms Try.its_calls
#print axioms Try.Same_calls
end Go.Proofs
