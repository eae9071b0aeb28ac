/- Slices of routes: what they hold. No program. -/
import Derived.Test.YtbnefehfkeonhaaPlanPlain
import Derived.Test.YtbnefehfkeonhaaInts
namespace Go.Proofs
open Go.RowKit Go.Plans
/-- A slice of slices of ints that read as rr, from an address on. -/
def RtsAt (W : World) (b off : Nat) (rr : Rts) : Prop := b < W.heap.size ∧ ∀ i l, rr[i]? = some l → ∃ v, W.cell? ⟨b, off + i, none⟩ = some v ∧ HasInts W v l
def HasRts (W : World) (v : Value) (rr : Rts) : Prop := (rr = [] ∧ ∃ ao cap, v = .slice ao 0 cap) ∨ ∃ b off cap, v = .slice (some ⟨b, off, none⟩) rr.length cap ∧ rr.length ≤ cap ∧ cap ≤ maxLen ∧ RtsAt W b off rr
/-- A plan whose routes read as rr. -/
def planV (v : Value) : Value := .agg #[v]
theorem RtsAt.next {b off : Nat} {W W' : World} {rr : Rts} (h : RtsAt W b off rr) (hb : Below W.heap.size W W') : RtsAt W' b off rr := by
  refine ⟨Nat.lt_of_lt_of_le h.1 hb.size, fun i l hi => ?_⟩
  obtain ⟨v, h1, h2⟩ := h.2 i l hi
  exact ⟨v, (hb.cell (p := ⟨b, off + i, none⟩) h.1).trans h1, h2.next hb⟩
theorem HasRts.next {W W' : World} {v : Value} {rr : Rts} (h : HasRts W v rr) (hb : Below W.heap.size W W') : HasRts W' v rr := by
  rcases h with h | ⟨b, off, cap, h1, h2, h3, h4⟩
  · exact .inl h
  · exact .inr ⟨b, off, cap, h1, h2, h3, h4.next hb⟩
theorem HasRts.len {W : World} {v : Value} {rr : Rts} (h : HasRts W v rr) : ∃ ao cap, v = .slice ao rr.length cap := by
  rcases h with ⟨rfl, ao, cap, rfl⟩ | ⟨b, off, cap, rfl, _⟩
  · exact ⟨ao, cap, rfl⟩
  · exact ⟨_, cap, rfl⟩
/-- A route in it, in any later world: its cell, and what it reads as. -/
theorem HasRts.get {B : Nat} {W W' : World} {v : Value} {rr : Rts} {i : Nat} {l : List Int} (h : HasRts W v rr) (hi : rr[i]? = some l) (hB : W.heap.size ≤ B) (hb : Below B W W') : ∃ b off cap u, v = .slice (some ⟨b, off, none⟩) rr.length cap ∧ b < B ∧ b < W'.heap.size ∧ W'.cell? ⟨b, off + i, none⟩ = some u ∧ HasInts W' u l := by
  rcases h with ⟨rfl, _⟩ | ⟨b, off, cap, h1, _, _, h4⟩
  · simp at hi
  · obtain ⟨u, h5, h6⟩ := h4.2 i l hi
    have hlt : b < B := Nat.lt_of_lt_of_le h4.1 hB
    refine ⟨b, off, cap, u, h1, hlt, Nat.lt_of_lt_of_le h4.1 hb.size, (hb.cell (p := ⟨b, off + i, none⟩) hlt).trans h5, h6.next (hb.mono hB)⟩
/-- A box of one value, of a call's own: what it holds, and that it stands. -/
def BoxAt (W : World) (B : Nat) (v : Value) : Prop := W.cell? ⟨B, 0, none⟩ = some v ∧ B < W.heap.size
theorem BoxAt.new (w : World) (v : Value) (t : TypeId) : BoxAt (w.alloc (.cells #[v] t)) w.heap.size v := by
  have e := World.alloc_heap_new w (.cells #[v] t)
  refine ⟨?_, by simp⟩
  unfold World.cell?; simp only [e]; rfl
theorem BoxAt.next {W W' : World} {B : Nat} {v : Value} (h : BoxAt W B v) (hb : Below W.heap.size W W') : BoxAt W' B v := ⟨(hb.cell (p := ⟨B, 0, none⟩) h.2).trans h.1, Nat.lt_of_lt_of_le h.2 hb.size⟩
theorem many_take {rr : Rts} {k : Nat} {l : List Int} (h : rr[k]? = some l) : many (rr.take (k + 1)) = many (rr.take k) + l.length := by
  rw [List.take_add_one, h, many_append]; simp [many]
theorem many_take_le (rr : Rts) (k : Nat) : many (rr.take k) ≤ many rr := by
  have h := many_append (rr.take k) (rr.drop k)
  rw [List.take_append_drop] at h; omega
end Go.Proofs
