/- A head in a block of its own; texts of keywords are short. No program. -/
import Derived.Test.YtmmmgljekoebpaaGreatDoorG05
namespace Go.Proofs
open Go.RowKit Go.Shelf Go.Hdr Go.Fx Go.Wds Go.Metric Go.Layout
/-- A head in a block of its own. -/
structure HdBox (W : World) (B : Nat) (nm : ByteArray) (k d c m l : Int) : Prop where
  lt : B < W.heap.size
  c0 : W.cell? ⟨B, 0, none⟩ = some (.string nm)
  c1 : W.cell? ⟨B, 1, none⟩ = some (.int .i64 k)
  c2 : W.cell? ⟨B, 2, none⟩ = some (.int .i64 d)
  c3 : W.cell? ⟨B, 3, none⟩ = some (.int .i64 c)
  c4 : W.cell? ⟨B, 4, none⟩ = some (.int .i64 m)
  c5 : W.cell? ⟨B, 5, none⟩ = some (.int .i64 l)
theorem hdcell (W : World) (cs : Array Value) (t : TypeId) (j : Nat) : (W.alloc (.cells cs t)).cell? ⟨W.heap.size, j, none⟩ = cs[j]? := by
  unfold World.cell?
  rw [World.alloc_heap_new]
  rfl
theorem HdBox.new (w : World) (nm : ByteArray) (k d c m l : Int) (t : TypeId) : HdBox (w.alloc (.cells #[.string nm, .int .i64 k, .int .i64 d, .int .i64 c, .int .i64 m, .int .i64 l] t)) w.heap.size nm k d c m l :=
  ⟨by simp, hdcell _ _ _ _, hdcell _ _ _ _, hdcell _ _ _ _, hdcell _ _ _ _, hdcell _ _ _ _, hdcell _ _ _ _⟩
theorem HdBox.next {W W' : World} {B : Nat} {nm : ByteArray} {k d c m l : Int} (h : HdBox W B nm k d c m l) (hb : Below W.heap.size W W') : HdBox W' B nm k d c m l :=
  ⟨Nat.lt_of_lt_of_le h.lt hb.size, (hb.cell (p := ⟨B, 0, none⟩) h.lt).trans h.c0, (hb.cell (p := ⟨B, 1, none⟩) h.lt).trans h.c1, (hb.cell (p := ⟨B, 2, none⟩) h.lt).trans h.c2, (hb.cell (p := ⟨B, 3, none⟩) h.lt).trans h.c3, (hb.cell (p := ⟨B, 4, none⟩) h.lt).trans h.c4, (hb.cell (p := ⟨B, 5, none⟩) h.lt).trans h.c5⟩
theorem hd_below (w : World) (o : Obj) {w1 : World} (h : Below (w.alloc o).heap.size (w.alloc o) w1) : Below w.heap.size w w1 := by
  have h1 : Below w.heap.size w (w.alloc o) := (Below.refl _ _).alloc (Nat.le_refl _) _
  exact h1.trans (h.mono h1.size)
theorem hd_told {v v' : Value} {q : Prop} (e : v = v') (h : q) : Ending.returned v = Ending.returned v' ∧ q := ⟨congrArg _ e, h⟩
theorem HdBox.drew {W : World} {B : Nat} {nm : ByteArray} {k d c m l : Int} (h : HdBox W B nm k d c m l) : HdBox W.drew B nm k d c m l := ⟨h.lt, h.c0, h.c1, h.c2, h.c3, h.c4, h.c5⟩
theorem below_drew_hd (w1 : World) {w2 : World} (h : Below w1.drew.heap.size w1.drew w2) : Below w1.heap.size w1 w2 := ⟨h.os, h.tape, h.output, h.size, h.block⟩
theorem kw_short (m : Int) : (kwS m).size ≤ 8 := by
  unfold kwS
  repeat' split
  all_goals decide
theorem lkw_short (m : Int) : (lkwS m).size ≤ 14 := by
  unfold lkwS
  repeat' split
  all_goals decide
end Go.Proofs
/- The document's own Print of layer 14. Conditions: a name is no longer than two million bytes. -/
namespace Go.Proofs
open Go.RowKit Go.Shelf Go.Hdr Go.Fx Go.Wds Go.Metric Go.Layout
attribute [local go_sem] Oper.semAt_some
theorem htext10 (nm q kw : ByteArray) : (⟨#[78, 65, 77, 69, 32, 58, 32]⟩ : ByteArray) ++ nm ++ ⟨#[10, 84, 89, 80, 69, 32, 58, 32]⟩ ++ ⟨#[84, 83, 80]⟩ ++ ⟨#[10, 68, 73, 77, 69, 78, 83, 73, 79, 78, 32, 58, 32]⟩ ++ q ++ ⟨#[10]⟩ ++ ⟨#[69, 68, 71, 69, 95, 87, 69, 73, 71, 72, 84, 95, 84, 89, 80, 69, 32, 58, 32]⟩ ++ kw ++ ⟨#[10]⟩ = lineH hkName nm ++ lineH hkType (kindS 1) ++ lineH hkDim q ++ ⟨#[]⟩ ++ lineH hkMet kw ++ ⟨#[]⟩ := by
  apply ByteArray.ext
  apply Array.toList_inj.1
  simp [lineH, hkName, hkType, hkDim, hkMet, kindS, hkTsp, Hdr.col, Hdr.lf, ByteArray.data_append]
theorem htext11 (nm q kw lw : ByteArray) : (⟨#[78, 65, 77, 69, 32, 58, 32]⟩ : ByteArray) ++ nm ++ ⟨#[10, 84, 89, 80, 69, 32, 58, 32]⟩ ++ ⟨#[84, 83, 80]⟩ ++ ⟨#[10, 68, 73, 77, 69, 78, 83, 73, 79, 78, 32, 58, 32]⟩ ++ q ++ ⟨#[10]⟩ ++ ⟨#[69, 68, 71, 69, 95, 87, 69, 73, 71, 72, 84, 95, 84, 89, 80, 69, 32, 58, 32]⟩ ++ kw ++ ⟨#[10]⟩ ++ ⟨#[69, 68, 71, 69, 95, 87, 69, 73, 71, 72, 84, 95, 70, 79, 82, 77, 65, 84, 32, 58, 32]⟩ ++ lw ++ ⟨#[10]⟩ = lineH hkName nm ++ lineH hkType (kindS 1) ++ lineH hkDim q ++ ⟨#[]⟩ ++ lineH hkMet kw ++ lineH hkLay lw := by
  apply ByteArray.ext
  apply Array.toList_inj.1
  simp [lineH, hkName, hkType, hkDim, hkMet, hkLay, kindS, hkTsp, Hdr.col, Hdr.lf, ByteArray.data_append]
theorem htext20 (nm q cq kw : ByteArray) : (⟨#[78, 65, 77, 69, 32, 58, 32]⟩ : ByteArray) ++ nm ++ ⟨#[10, 84, 89, 80, 69, 32, 58, 32]⟩ ++ ⟨#[67, 86, 82, 80]⟩ ++ ⟨#[10, 68, 73, 77, 69, 78, 83, 73, 79, 78, 32, 58, 32]⟩ ++ q ++ ⟨#[10]⟩ ++ ⟨#[67, 65, 80, 65, 67, 73, 84, 89, 32, 58, 32]⟩ ++ cq ++ ⟨#[10]⟩ ++ ⟨#[69, 68, 71, 69, 95, 87, 69, 73, 71, 72, 84, 95, 84, 89, 80, 69, 32, 58, 32]⟩ ++ kw ++ ⟨#[10]⟩ = lineH hkName nm ++ lineH hkType (kindS 2) ++ lineH hkDim q ++ lineH hkCap cq ++ lineH hkMet kw ++ ⟨#[]⟩ := by
  apply ByteArray.ext
  apply Array.toList_inj.1
  simp [lineH, hkName, hkType, hkDim, hkCap, hkMet, kindS, hkCvrp, Hdr.col, Hdr.lf, ByteArray.data_append]
theorem htext21 (nm q cq kw lw : ByteArray) : (⟨#[78, 65, 77, 69, 32, 58, 32]⟩ : ByteArray) ++ nm ++ ⟨#[10, 84, 89, 80, 69, 32, 58, 32]⟩ ++ ⟨#[67, 86, 82, 80]⟩ ++ ⟨#[10, 68, 73, 77, 69, 78, 83, 73, 79, 78, 32, 58, 32]⟩ ++ q ++ ⟨#[10]⟩ ++ ⟨#[67, 65, 80, 65, 67, 73, 84, 89, 32, 58, 32]⟩ ++ cq ++ ⟨#[10]⟩ ++ ⟨#[69, 68, 71, 69, 95, 87, 69, 73, 71, 72, 84, 95, 84, 89, 80, 69, 32, 58, 32]⟩ ++ kw ++ ⟨#[10]⟩ ++ ⟨#[69, 68, 71, 69, 95, 87, 69, 73, 71, 72, 84, 95, 70, 79, 82, 77, 65, 84, 32, 58, 32]⟩ ++ lw ++ ⟨#[10]⟩ = lineH hkName nm ++ lineH hkType (kindS 2) ++ lineH hkDim q ++ lineH hkCap cq ++ lineH hkMet kw ++ lineH hkLay lw := by
  apply ByteArray.ext
  apply Array.toList_inj.1
  simp [lineH, hkName, hkType, hkDim, hkCap, hkMet, hkLay, kindS, hkCvrp, Hdr.col, Hdr.lf, ByteArray.data_append]
end Go.Proofs
/- Plain facts: the lines of a text, a line feed, and another text; no program. -/
namespace Go.Cur
def shift2 (n : Nat) (p : Nat × Nat) : Nat × Nat := (p.1 + n, p.2 + n)
def shift3 (n : Nat) (p : Nat × Nat × Nat) : Nat × Nat × Nat := (p.1 + n, p.2.1 + n, p.2.2 + n)
theorem spans_shift (n : Nat) : ∀ (r : List UInt8) (b a : Nat), spansFrom r (b + n) (a + n) = (spansFrom r b a).map (shift2 n)
  | [], b, a => rfl
  | c :: r, b, a => by
    unfold spansFrom
    split
    · have := spans_shift n r (b + 1) (b + 1)
      rw [show b + 1 + n = b + n + 1 from by omega] at this
      rw [this]; rfl
    · have := spans_shift n r (b + 1) a
      rw [show b + 1 + n = b + n + 1 from by omega] at this
      exact this
theorem spans_cut : ∀ (l : List UInt8) (base a : Nat), a ≤ base → ∃ P : List (Nat × Nat), P ≠ [] ∧ (∀ r, spansFrom (l ++ 10 :: r) base a = P ++ spansFrom r (base + l.length + 1) (base + l.length + 1)) ∧ ∀ p ∈ P, p.1 ≤ p.2 ∧ p.2 ≤ base + l.length
  | [], base, a, h => ⟨[(a, base)], by simp, fun r => rfl, fun p hp => by
      have e : p = (a, base) := by simpa using hp
      subst e; exact ⟨h, by simp⟩⟩
  | c :: l, base, a, h => by
    by_cases hc : c = 10
    · obtain ⟨P, h0, h1, h2⟩ := spans_cut l (base + 1) (base + 1) (Nat.le_refl _)
      refine ⟨(a, base) :: P, by simp, fun r => ?_, fun p hp => ?_⟩
      · rw [List.cons_append, spansFrom, if_pos hc, h1 r, List.length_cons, show base + 1 + l.length + 1 = base + (l.length + 1) + 1 from by omega]; rfl
      · rcases List.mem_cons.1 hp with rfl | hp
        · exact ⟨h, by simp⟩
        · have := h2 p hp
          simp only [List.length_cons]; omega
    · obtain ⟨P, h0, h1, h2⟩ := spans_cut l (base + 1) a (by omega)
      refine ⟨P, h0, fun r => ?_, fun p hp => ?_⟩
      · rw [List.cons_append, spansFrom, if_neg hc, h1 r, List.length_cons, show base + 1 + l.length + 1 = base + (l.length + 1) + 1 from by omega]
      · have := h2 p hp
        simp only [List.length_cons]; omega
theorem lineAt_low {a r r' : List UInt8} {p : Nat × Nat} (h2 : p.2 ≤ a.length) : lineAt (a ++ 10 :: r) p = lineAt (a ++ 10 :: r') p := by
  unfold lineAt
  simp only [List.length_append, List.length_cons]
  rw [if_neg (show ¬ p.2 = a.length + (r.length + 1) by omega), if_neg (show ¬ p.2 = a.length + (r'.length + 1) by omega)]
  by_cases hp : p.1 < p.2
  · have hi : ∀ q : List UInt8, (a ++ 10 :: q)[p.2 - 1]? = a[p.2 - 1]? := fun q => List.getElem?_append_left (by omega)
    rw [hi, hi]
  · rw [if_neg (fun h => hp h.1), if_neg (fun h => hp h.1)]
theorem lineAt_high (a b : List UInt8) (p : Nat × Nat) : lineAt (a ++ 10 :: b) (shift2 (a.length + 1) p) = shift3 (a.length + 1) (lineAt b p) := by
  unfold lineAt shift2 shift3
  simp only [List.length_append, List.length_cons]
  by_cases he : p.2 = b.length
  · rw [if_pos (by omega), if_pos he]
  · rw [if_neg (by omega), if_neg he]
    by_cases hp : p.1 < p.2
    · have hi : (a ++ 10 :: b)[p.2 + (a.length + 1) - 1]? = b[p.2 - 1]? := by
        rw [List.getElem?_append_right (by omega), show p.2 + (a.length + 1) - 1 - a.length = (p.2 - 1) + 1 from by omega, List.getElem?_cons_succ]
      rw [hi]
      by_cases h13 : b[p.2 - 1]? = some 13
      · rw [if_pos ⟨by omega, h13⟩, if_pos ⟨hp, h13⟩]
        refine Prod.ext rfl (Prod.ext ?_ ?_) <;> simp only <;> omega
      · rw [if_neg (fun h => h13 h.2), if_neg (fun h => h13 h.2)]
        refine Prod.ext rfl (Prod.ext rfl ?_); simp only; omega
    · rw [if_neg (fun h => hp (by have := h.1; omega)), if_neg (fun h => hp h.1)]
      refine Prod.ext rfl (Prod.ext rfl ?_); simp only; omega
theorem takeWhile_map' {α β : Type} {f : α → β} {p : β → Bool} {q : α → Bool} (h : ∀ x, p (f x) = q x) : ∀ l : List α, (l.map f).takeWhile p = (l.takeWhile q).map f
  | [] => rfl
  | x :: l => by
    rw [List.map_cons, List.takeWhile_cons, List.takeWhile_cons, h x]
    split
    · rw [takeWhile_map' h l]; rfl
    · rfl
theorem lines_join (a b : List UInt8) : lines (a ++ 10 :: b) = lines (a ++ [10]) ++ (lines b).map (shift3 (a.length + 1)) ∧ 0 < (lines (a ++ [10])).length := by
  obtain ⟨P, h0, h1, h2⟩ := spans_cut a 0 0 (Nat.le_refl _)
  simp only [Nat.zero_add] at h1 h2
  have e1 : spans (a ++ 10 :: b) = P ++ (spans b).map (shift2 (a.length + 1)) := by
    rw [show spans (a ++ 10 :: b) = spansFrom (a ++ 10 :: b) 0 0 from rfl, h1 b]
    have := spans_shift (a.length + 1) b 0 0
    rw [Nat.zero_add] at this
    rw [this]; rfl
  have e2 : spans (a ++ [10]) = P ++ [(a.length + 1, a.length + 1)] := by
    rw [show spans (a ++ [10]) = spansFrom (a ++ 10 :: []) 0 0 from rfl, h1 []]; rfl
  have l2 : lines (a ++ [10]) = P.map (lineAt (a ++ [10])) := by
    unfold lines
    rw [e2, takeWhile_all (fun p hp => by have := h2 p hp; simp; omega)]
    simp
  constructor
  · rw [l2]
    unfold lines
    rw [e1, takeWhile_all (fun p hp => by have := h2 p hp; simp; omega), List.map_append]
    congr 1
    · exact List.map_congr_left fun p hp => lineAt_low (h2 p hp).2
    · rw [takeWhile_map' (q := fun p => p.1 != b.length) (fun p => by
          rw [Bool.eq_iff_iff, bne_iff_ne, bne_iff_ne]
          simp only [shift2, List.length_append, List.length_cons]; omega), List.map_map, List.map_map]
      exact List.map_congr_left fun p _ => lineAt_high a b p
  · rw [l2, List.length_map]
    exact List.length_pos_iff.2 h0
end Go.Cur
