/- The document's own answer for layout.Unpack. Conditions: none but that what is handed in is a slice of ints. -/
import Derived.Test.YtbnefehfkeonhaaInts
import Derived.Test.YtbnefehfkeonhaaLayoutIndex
namespace Go.Proofs
open Go.RowKit Go.Shelf Go.Layout Go.Sort
attribute [local go_sem] Oper.semAt_some

theorem Try.info3 : (Try.prog.info? 3).map (fun i => (i.zero, i.size, i.bytes)) = some (some (.int .i64 0), 1, 8) := by kernel_rfl
theorem cells_one (W : World) (a : Value) (t : TypeId) : ∀ (j : Nat) (u : Value), [a][j]? = some u → (W.alloc (.cells #[a] t)).cell? ((⟨W.heap.size, 0, none⟩ : Addr).add j) = some u := by
  intro j u h
  have e := World.alloc_heap_new W (.cells #[a] t)
  have hb : ((⟨W.heap.size, 0, none⟩ : Addr).add j) = ⟨W.heap.size, j, none⟩ := by
    unfold Addr.add
    split
    · rename_i h0; rw [h0]
    · simp
  rw [hb]
  unfold World.cell?
  simp only [e]
  simpa using h
theorem lset_below {B : Nat} {w W : World} (h : Below B w W) {g j : Nat} (hg : B ≤ g) (u : Value) : Below B w (W.setCell ⟨g, j, none⟩ u) := h.setCell (p := ⟨g, j, none⟩) hg u
theorem owns_cell {W : World} {base : Nat} {e : TypeId} {g c cap : Nat} {L : List Int} (h : W.ownsRow base e 1 (.slice (some ⟨g, 0, none⟩) c cap) c (L.map intV)) {j : Nat} (hj : j < c) : ∃ z, W.cell? ⟨g, j, none⟩ = some (.int .i64 z) := by
  have hl : L.length = c := by have := h.1; simpa using this
  refine ⟨L[j]'(by omega), ?_⟩
  rw [World.ownsRow.cellAt h j (by omega)]
  simp [intV, List.getElem?_eq_getElem (show j < L.length by omega)]
theorem map_set (l : List Int) (j : Nat) (x : Int) : (l.map intV).set j (intV x) = (l.set j x).map intV := by rw [List.map_set]
theorem lgrown_below {n₀ : Nat} {w wr w1 : World} {tmp : Obj} {v : Value} {e : TypeId} {size k : Nat} {xs : List Value} (hB : Below n₀ w wr) (hn : n₀ ≤ wr.heap.size) (hown : wr.ownsRow n₀ e size v k xs) (hgrow : (wr.alloc tmp).grownBy w1 v.ownBlock) : Below n₀ w w1 := by
  refine (hB.alloc hn tmp).grown hgrow (by simp; omega) ?_
  intro k hk
  rcases hown.2 with ⟨rfl, _⟩ | ⟨g, cap, cur, rfl, hbg, _⟩
  · simp [Value.ownBlock] at hk
  · have : g = k := by simpa [Value.ownBlock] using hk
    omega
theorem owns_empty1 (w : World) (e : TypeId) : (w.alloc (.cells #[] e)).ownsRow w.heap.size e 1 (.slice (some ⟨w.heap.size, 0, none⟩) 0 0) 0 [] :=
  ⟨rfl, .inr ⟨w.heap.size, 0, #[], rfl, Nat.le_refl _, World.alloc_heap_new w _, Nat.le_refl _, Nat.zero_le _, rfl, rfl⟩⟩

end Go.Proofs
