/- What entrepotlaw01.shown answers: true. No conditions. -/
import Derived.Test.YtokbhkedmfbgjaaPlace
import Derived.Test.YtokbhkedmfbgjaaRowsOf
namespace Go.Proofs
open Go.RowKit Go.Shelf Go.Cur

/-- v is a slice that holds the lines ps in W. -/
def HasLines (W : World) (v : Value) (ps : List (Nat × Nat × Nat)) : Prop :=
  ∃ (ao : Option Addr) (cap : Nat), v = .slice ao ps.length cap ∧ ∀ (i a b c : Nat), ps[i]? = some (a, b, c) → ∃ g, ao = some ⟨g, 0, none⟩ ∧ g < W.heap.size ∧
    W.cell? ⟨g, i * 3, none⟩ = some (.int .i64 (a : Nat)) ∧ W.cell? ⟨g, i * 3 + 1, none⟩ = some (.int .i64 (b : Nat)) ∧ W.cell? ⟨g, i * 3 + 2, none⟩ = some (.int .i64 (c : Nat))

theorem lineCells_get : ∀ {ps : List (Nat × Nat × Nat)} {i a b c : Nat}, ps[i]? = some (a, b, c) →
    (lineCells ps)[i * 3]? = some (.int .i64 (a : Nat)) ∧ (lineCells ps)[i * 3 + 1]? = some (.int .i64 (b : Nat)) ∧ (lineCells ps)[i * 3 + 2]? = some (.int .i64 (c : Nat))
  | [], i, a, b, c, h => by simp at h
  | p :: ps, 0, a, b, c, h => by
    have e : p = (a, b, c) := by simpa using h
    subst e
    exact ⟨rfl, rfl, rfl⟩
  | p :: ps, i + 1, a, b, c, h => by
    have h' : ps[i]? = some (a, b, c) := by simpa using h
    have ih := lineCells_get h'
    have e : ∀ j, (lineCells (p :: ps))[(i + 1) * 3 + j]? = (lineCells ps)[i * 3 + j]? := fun j => by
      rw [show (i + 1) * 3 + j = (i * 3 + j) + 1 + 1 + 1 from by omega]; rfl
    exact ⟨(e 0).trans ih.1, (e 1).trans ih.2.1, (e 2).trans ih.2.2⟩

theorem hasLines_of_owns {W : World} {base : Nat} {e : TypeId} {v : Value} {ps : List (Nat × Nat × Nat)} (h : W.ownsRow base e 3 v ps.length (lineCells ps)) : HasLines W v ps := by
  rcases h.2 with ⟨rfl, h0⟩ | ⟨g, cap, cur, rfl, h1, h2, _⟩
  · refine ⟨none, 0, by rw [h0], fun i a b c hi => ?_⟩
    have := (List.getElem?_eq_some_iff.1 hi).1
    omega
  · refine ⟨_, cap, rfl, fun i a b c hi => ⟨g, rfl, (Array.getElem?_eq_some_iff.1 h2).1, ?_⟩⟩
    have hc := World.ownsRow.cells h (g := g) rfl
    have hl := lineCells_get hi
    have e : ∀ j, ((⟨g, 0, none⟩ : Addr).add j) = ⟨g, j, none⟩ := fun j => by
      unfold Addr.add
      split
      · rename_i h0; rw [h0]
      · simp
    have h3 := hc _ _ hl.1
    have h4 := hc _ _ hl.2.1
    have h5 := hc _ _ hl.2.2
    rw [e] at h3 h4 h5
    exact ⟨h3, h4, h5⟩

theorem HasLines.below {W W' : World} {v : Value} {ps : List (Nat × Nat × Nat)} (h : HasLines W v ps) {n₀ : Nat} (hb : Below n₀ W W') (hn : W.heap.size ≤ n₀) : HasLines W' v ps := by
  obtain ⟨ao, cap, rfl, h⟩ := h
  refine ⟨ao, cap, rfl, fun i a b c hi => ?_⟩
  obtain ⟨g, h1, h2, h3, h4, h5⟩ := h i a b c hi
  have := hb.size
  exact ⟨g, h1, by omega, (hb.cell (p := ⟨g, _, none⟩) (by simp; omega)).trans h3, (hb.cell (p := ⟨g, _, none⟩) (by simp; omega)).trans h4, (hb.cell (p := ⟨g, _, none⟩) (by simp; omega)).trans h5⟩

def sA : ByteArray := ⟨#[97, 98, 13, 10, 99]⟩
def sB : ByteArray := ⟨#[32, 10, 9, 10, 120]⟩

theorem Try.LinesA (w : World) : Calls Try.prog 10 #[.string ⟨#[97, 98, 13, 10, 99]⟩] w fun e w' => ∃ g cap, e = .returned (.slice (some ⟨g, 0, none⟩) 2 cap) ∧ g < w'.heap.size ∧ Below w.heap.size w w' ∧
    w'.cell? ⟨g, 0, none⟩ = some (.int .i64 0) ∧ w'.cell? ⟨g, 1, none⟩ = some (.int .i64 2) ∧ w'.cell? ⟨g, 2, none⟩ = some (.int .i64 4) ∧ w'.cell? ⟨g, 3, none⟩ = some (.int .i64 4) ∧ w'.cell? ⟨g, 4, none⟩ = some (.int .i64 5) ∧ w'.cell? ⟨g, 5, none⟩ = some (.int .i64 5) := by
  refine (Try.Lines_calls sA w (by decide)).mono ?_
  rintro e w' ⟨v, rfl, h1, h2⟩
  have hl : lines sA.data.toList = [(0, 2, 4), (4, 5, 5)] := by decide
  rw [hl] at h1
  obtain ⟨ao, cap, rfl, h3⟩ := hasLines_of_owns h1
  obtain ⟨g, rfl, h4, c0, c1, c2⟩ := h3 0 0 2 4 rfl
  obtain ⟨g', h5, _, c3, c4, c5⟩ := h3 1 4 5 5 rfl
  cases h5
  exact ⟨g, cap, rfl, h4, h2, c0, c1, c2, c3, c4, c5⟩

theorem Try.RowsB (w : World) : Calls Try.prog 14 #[.string ⟨#[32, 10, 9, 10, 120]⟩] w fun e w' => ∃ ao cap, e = .returned (.slice ao 1 cap) ∧ Below w.heap.size w w' := by
  refine (Try.Rows_calls sB w (by decide)).mono ?_
  rintro e w' ⟨v, rfl, h1, h2⟩
  have hl : rowsOf sB.data.toList = [(4, 5, 5)] := by decide
  rw [hl] at h1
  obtain ⟨ao, cap, rfl, h3⟩ := hasLines_of_owns h1
  exact ⟨ao, cap, rfl, h2⟩

theorem Try.WhereA (w : World) : Calls Try.prog 18 #[.string ⟨#[97, 98, 13, 10, 99]⟩, .int .i64 4] w fun e w' => e = .returned (.tuple #[.int .i64 2, .int .i64 1, .int .i64 0]) ∧ Below w.heap.size w w' := by
  refine (Try.Where_calls sA 4 w (by decide) (by decide) (by decide)).mono ?_
  rintro e w' ⟨rfl, h2⟩
  have hl : whereL (spans sA.data.toList) 4 0 = (2, 1, 0) := by decide
  rw [hl]
  exact ⟨rfl, h2⟩
theorem Try.PlaceA (w : World) : Calls Try.prog 20 #[.string ⟨#[97, 98, 13, 10, 99]⟩, .int .i64 2, .int .i64 2] w fun e w' => e = .returned (.tuple #[.int .i64 5, .int .i64 0]) ∧ Below w.heap.size w w' := by
  refine (Try.Place_calls sA 2 2 w (by decide) (by decide) (by decide)).mono ?_
  rintro e w' ⟨rfl, h2⟩
  have hl : placeL (spans sA.data.toList) 2 2 0 = (5, 0) := by decide
  rw [hl]
  exact ⟨rfl, h2⟩

set_option maxRecDepth 100000 in
set_option maxHeartbeats 1000000 in
theorem Try.shown_calls (w : World) : Calls Try.prog 9 #[] w fun e w' => e = .returned (.bool true) ∧ Below w.heap.size w w' := by
  go_enter Try.func9, Try.ntmps9
  go_wp2_with (first
    | (go_at_call 10; refine (Try.LinesA _).mono ?_; rintro e w1 ⟨g, cap, rfl, hg, hb1, a0, a1, a2, a3, a4, a5⟩)
    | (go_at_call 18; refine (Try.WhereA _).mono ?_; rintro e w2 ⟨rfl, hb2⟩)
    | (go_at_call 20; refine (Try.PlaceA _).mono ?_; rintro e w3 ⟨rfl, hb3⟩; have hg2 := Nat.lt_of_lt_of_le hg hb2.size; have d0 := (hb3.cell (p := ⟨g, 0, none⟩) hg2).trans ((hb2.cell (p := ⟨g, 0, none⟩) hg).trans a0); have d1 := (hb3.cell (p := ⟨g, 1, none⟩) hg2).trans ((hb2.cell (p := ⟨g, 1, none⟩) hg).trans a1); have d2 := (hb3.cell (p := ⟨g, 2, none⟩) hg2).trans ((hb2.cell (p := ⟨g, 2, none⟩) hg).trans a2); have d3 := (hb3.cell (p := ⟨g, 3, none⟩) hg2).trans ((hb2.cell (p := ⟨g, 3, none⟩) hg).trans a3); have d4 := (hb3.cell (p := ⟨g, 4, none⟩) hg2).trans ((hb2.cell (p := ⟨g, 4, none⟩) hg).trans a4); have d5 := (hb3.cell (p := ⟨g, 5, none⟩) hg2).trans ((hb2.cell (p := ⟨g, 5, none⟩) hg).trans a5))
    | (go_at_call 14; refine (Try.RowsB _).mono ?_; rintro e w4 ⟨ao, cap2, rfl, hb4⟩))
  go_ret
  exact ⟨rfl, ((hb1.trans (hb2.mono hb1.size)).trans (hb3.mono (Nat.le_trans hb1.size hb2.size))).trans (hb4.mono (Nat.le_trans hb1.size (Nat.le_trans hb2.size hb3.size)))⟩
#print axioms Try.shown_calls
end Go.Proofs
