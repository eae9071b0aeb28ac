/- The program's calls and the document's own answers, as layer 8's laws meet them. Conditions: what the laws' bound leaves (420 nodes, 1000 numbers, a name of 100 bytes). -/
import Derived.Test.YtogpnkahgkidpaaCanonShown
namespace Go.Proofs
open Go.RowKit Go.Shelf Go.Canon
attribute [local go_sem] Oper.semAt_some

theorem long_no {x : Ins} (h : longB x = false) : x.nodes.length ≤ 420 ∧ x.matrix.length ≤ 1000 ∧ x.name.size ≤ 100 := by
  simp only [longB, Bool.or_eq_false_iff, decide_eq_false_iff_not] at h
  omega
theorem HasFts.len {W : World} {v : Value} {l : List (Nat × Nat)} (h : HasFts W v l) : ∃ ao c, v = .slice ao l.length c := by
  obtain ⟨ao, c, e, _⟩ := h.dat
  exact ⟨ao, c, e⟩
theorem check_len (N : ByteArray → Bool) (x : Ins) (h : x.nodes.length ≤ 420) : (checkL N x).length ≤ 2200 := by
  unfold checkL
  have h1 := heads_len N x
  have h2 := nodesF_len x x.nodes.length
  rw [List.length_append]
  split
  · simp; omega
  · have h3 := (says_in (matrixB x) 8 0).length_le
    simp at h3
    rw [List.length_append]; omega
theorem Try.hNB : ∀ (s : ByteArray) (W : World), s.size ≤ 100 → Calls Try.prog 28 #[.string s] W fun e w' => e = .returned (.bool (nameB s)) ∧ Below W.heap.size W w' := fun s W h =>
  (Try.rName_calls s W (Nat.le_trans h (by decide))).mono fun _ _ ⟨h1, h2⟩ => ⟨h1, h2 ▸ Below.refl _ _⟩
theorem Try.hKB : ∀ (m : Int) (W : World), Calls Try.prog 29 #[.int .i64 m] W fun e w' => e = .returned (.bool (metricB m)) ∧ Below W.heap.size W w' := fun m W =>
  (Try.RKnown_calls m W).mono fun _ _ ⟨h1, h2⟩ => ⟨h1, h2 ▸ Below.refl _ _⟩
theorem Try.L14 (x : Ins) (vn vm : Value) (W : World) (h : HasIns W vn vm x) (hs : x.name.size ≤ 100) : Calls Try.prog 14 #[insV x vn vm] W fun e w' => ∃ v', e = .returned v' ∧ HasFts w' v' (checkL nameB x) ∧ Below W.heap.size W w' :=
  (Try.rcheck_calls nameB Try.hNB Try.hKB x vn vm W h hs).mono fun _ _ ⟨v', h1, h2, h3⟩ => ⟨v', h1, fts_of_owns h2, h3⟩
theorem Try.L21 (x : Ins) (vn vm : Value) (W : World) (h : HasIns W vn vm x) (hs : x.name.size ≤ 100) : Calls Try.prog 21 #[insV x vn vm] W fun e w' => e = .returned (.bool (wellB nameB x)) ∧ Below W.heap.size W w' :=
  Try.rwell_calls nameB Try.hNB Try.hKB x vn vm W h hs
theorem Try.L15 (x : Ins) (vn vm : Value) (W : World) (h : HasIns W vn vm x) (h1 : x.nodes.length ≤ 420) : Calls Try.prog 15 #[insV x vn vm] W fun e w' => ∃ v', e = .returned (insV x v' vm) ∧ HasIns w' v' vm x ∧ Below W.heap.size W w' :=
  (Try.lits_calls x vn vm W h (by omega)).mono fun _ _ ⟨v', h1, h2, h3⟩ => ⟨v', h1, ⟨nodes_of_owns h2, h.matrix.next h3⟩, h3⟩
theorem Try.L11 (x : Ins) (vn vm : Value) (W : World) (h : HasIns W vn vm x) (hs : x.name.size ≤ 100) (h1 : x.nodes.length ≤ 420) : Calls Try.prog 11 #[insV x vn vm] W fun e w' => ∃ v', e = .returned v' ∧ HasFts w' v' (checkL nameB x) ∧ Below W.heap.size W w' :=
  (Try.check_calls x vn vm W h hs (by omega)).mono fun _ _ ⟨v', h1, h2, h3⟩ => ⟨v', h1, fts_of_owns h2, h3⟩
theorem Try.L13 (v : Value) (l : List (Nat × Nat)) (W : World) (h : HasFts W v l) (hl : l.length ≤ 1000000) : Calls Try.prog 13 #[v] W fun e w' => ∃ v', e = .returned v' ∧ HasFts w' v' l ∧ Below W.heap.size W w' :=
  (Try.lfaults_calls v l W hl h).mono fun _ _ ⟨v', h1, h2, h3⟩ => ⟨v', h1, fts_of_owns h2, h3⟩
/-- What stands in a law: the instance in its box, and the memory below. -/
structure LawB (w : World) (x : Ins) (vn vm : Value) (W : World) : Prop where
  box : IBox W w.heap.size x vn vm
  ins : HasIns W vn vm x
  below : Below w.heap.size w W
theorem LawB.new {w : World} {x : Ins} {vn vm : Value} (h : HasIns w vn vm x) : LawB w x vn vm (w.alloc (.cells #[.string x.name, .int .i64 x.kind, .int .i64 x.metric, .int .i64 x.scale, .int .i64 x.cap, .int .i64 x.fleet, vn, vm] 25)) :=
  ⟨IBox.new _ _ _ _, h.next (below_box _ _), below_box _ _⟩
theorem LawB.next {w W W' : World} {x : Ins} {vn vm : Value} (h : LawB w x vn vm W) (hb : Below W.heap.size W W') : LawB w x vn vm W' :=
  ⟨h.box.next hb, h.ins.next hb, h.below.trans (hb.mono h.below.size)⟩
theorem LawB.drew {w W : World} {x : Ins} {vn vm : Value} (h : LawB w x vn vm W) : LawB w x vn vm W.drew := h.next (bw_drew (Below.refl _ _))
theorem LawB.cells {w W : World} {x : Ins} {vn vm : Value} (h : LawB w x vn vm W) : W.cell? ⟨w.heap.size, 0, none⟩ = some (.string x.name) ∧ W.cell? ⟨w.heap.size, 1, none⟩ = some (.int .i64 x.kind) ∧ W.cell? ⟨w.heap.size, 2, none⟩ = some (.int .i64 x.metric) ∧ W.cell? ⟨w.heap.size, 3, none⟩ = some (.int .i64 x.scale) ∧ W.cell? ⟨w.heap.size, 4, none⟩ = some (.int .i64 x.cap) ∧ W.cell? ⟨w.heap.size, 5, none⟩ = some (.int .i64 x.fleet) ∧ W.cell? ⟨w.heap.size, 6, none⟩ = some vn ∧ W.cell? ⟨w.heap.size, 7, none⟩ = some vm :=
  ⟨h.box.p 0, h.box.p 1, h.box.p 2, h.box.p 3, h.box.p 4, h.box.p 5, h.box.p 6, h.box.p 7⟩
def LawS (w : World) (x : Ins) (vn vm : Value) (W : World) : Prop := W.cell? ⟨w.heap.size, 0, none⟩ = some (.string x.name) ∧ W.cell? ⟨w.heap.size, 1, none⟩ = some (.int .i64 x.kind) ∧ W.cell? ⟨w.heap.size, 2, none⟩ = some (.int .i64 x.metric) ∧ W.cell? ⟨w.heap.size, 3, none⟩ = some (.int .i64 x.scale) ∧ W.cell? ⟨w.heap.size, 4, none⟩ = some (.int .i64 x.cap) ∧ W.cell? ⟨w.heap.size, 5, none⟩ = some (.int .i64 x.fleet) ∧ W.cell? ⟨w.heap.size, 6, none⟩ = some vn ∧ W.cell? ⟨w.heap.size, 7, none⟩ = some vm ∧ LawB w x vn vm W
theorem LawB.all {w W : World} {x : Ins} {vn vm : Value} (h : LawB w x vn vm W) : LawS w x vn vm W := by
  obtain ⟨c0, c1, c2, c3, c4, c5, c6, c7⟩ := h.cells
  exact ⟨c0, c1, c2, c3, c4, c5, c6, c7, h⟩
theorem HasFts.drew {W : World} {v : Value} {l : List (Nat × Nat)} (h : HasFts W v l) : HasFts W.drew v l := h.next (bw_drew (Below.refl _ _))
end Go.Proofs
