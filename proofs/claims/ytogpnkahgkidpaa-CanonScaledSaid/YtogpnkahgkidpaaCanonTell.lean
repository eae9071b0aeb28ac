/- The closure that gathers faults. Conditions: fewer than a million faults so far. -/
import Derived.Test.YtogpnkahgkidpaaCanonBounds
import Derived.Test.YtogpnkahgkidpaaCanonRows
import Derived.Test.YtogpnkahgkidpaaCanonFaults
import Derived.Test.YtogpnkahgkidpaaCanonNorm
namespace Go.Proofs
open Go.RowKit Go.Shelf Go.Canon
attribute [local go_sem] Oper.semAt_some

/-- The faults so far, in the box that the closure writes. -/
structure TellS (bx : Nat) (W : World) (v : Value) (l : List (Nat × Nat)) : Prop where
  row : W.ownsRow (bx + 1) 43 2 v l.length (l.flatMap ftC)
  cb : W.heap[bx]? = some (.cells #[v] 28)
  sz : bx + 1 ≤ W.heap.size
/-- What telling leaves as it is: all below the box, and all blocks of other types. -/
structure Told (bx : Nat) (W W' : World) : Prop where
  below : Below bx W W'
  keep : ∀ (k : Nat) (cs : Array Value) (t : TypeId), W.heap[k]? = some (.cells cs t) → t ≠ 43 → t ≠ 28 → W'.heap[k]? = some (.cells cs t)
theorem Told.of {bx : Nat} {W W' : World} (h : Below W.heap.size W W') (hs : bx ≤ W.heap.size) : Told bx W W' :=
  ⟨h.mono hs, fun k _ _ hk _ _ => (h.block k (Array.getElem?_eq_some_iff.1 hk).1).trans hk⟩
theorem Told.trans {bx : Nat} {W W' W'' : World} (h : Told bx W W') (h' : Told bx W' W'') : Told bx W W'' :=
  ⟨h.below.trans h'.below, fun k cs t hk h1 h2 => h'.keep k cs t (h.keep k cs t hk h1 h2) h1 h2⟩
theorem TellS.next {bx : Nat} {W W' : World} {v : Value} {l : List (Nat × Nat)} (h : TellS bx W v l) (hb : Below W.heap.size W W') : TellS bx W' v l :=
  ⟨h.row.kept (row := none) ⟨hb.os, hb.tape, hb.output, hb.size, fun k hk _ => hb.block k hk⟩ (by cases v.ownBlock <;> simp), (hb.block _ (by have := h.sz; omega)).trans h.cb, Nat.le_trans h.sz hb.size⟩
theorem Try.info43 : (Try.prog.info? 43).map (fun i => (i.zero, i.size, i.bytes)) = some (some (.agg #[.int .i64 0, .int .i64 0]), 2, 16) := by kernel_rfl
theorem TellS.put {bx : Nat} {W w1 : World} {v v' : Value} {l : List (Nat × Nat)} {f n : Nat} {tmp : Obj} (h : TellS bx W v l) (hown' : w1.ownsRow (bx + 1) 43 2 v' (l.length + 1) (l.flatMap ftC ++ ftC (f, n))) (hgrow : (W.alloc tmp).grownBy w1 v.ownBlock) : TellS bx (w1.setCell ⟨bx, 0, none⟩ v') v' (l ++ [(f, n)]) ∧ Told bx W (w1.setCell ⟨bx, 0, none⟩ v') := by
  have hs := h.sz
  have B1 : Below (bx + 1) W w1 := cgrown_below (Below.refl _ W) h.sz h.row hgrow
  have cb1 : w1.heap[bx]? = some (.cells #[v] 28) := (B1.block bx (Nat.lt_succ_self _)).trans h.cb
  have hset : ∀ k, k ≠ bx → (w1.setCell ⟨bx, 0, none⟩ v').heap[k]? = w1.heap[k]? := fun k hk => Below.heap_setCell _ _ _ _ hk
  refine ⟨⟨?_, ?_, ?_⟩, ⟨?_, fun k cs t hk h1 h2 => ?_⟩⟩
  · rw [flat_snoc, List.length_append]
    exact cowns_set hown' (by show bx < bx + 1; omega) _
  · simp [World.setCell, Array.getElem?_modify, cb1]
  · have := B1.size
    simp [World.setCell]; omega
  · exact (B1.mono (Nat.le_succ _)).setCell (Nat.le_refl _) _
  · have hkb : k ≠ bx := fun e => by rw [e, h.cb] at hk; injection hk with hk; injection hk with _ e2; exact h2 e2.symm
    rw [hset k hkb]
    have hlt := (Array.getElem?_eq_some_iff.1 hk).1
    have hko : v.ownBlock ≠ some k := fun e => by
      rcases h.row.2 with ⟨rfl, _⟩ | ⟨g, cap, cur, rfl, _, hg, _⟩
      · simp [Value.ownBlock] at e
      · have : g = k := by simpa [Value.ownBlock] using e
        rw [this, hk] at hg; injection hg with hg; injection hg with _ e2; exact h1 e2
    have e1 := hgrow.block k (by show k < (W.heap.push tmp).size; rw [Array.size_push]; omega) (fun e => hko e.symm)
    rw [e1]
    exact ((below_box W tmp).block k hlt).trans hk
set_option maxRecDepth 100000 in
theorem Try.tell_calls (bx : Nat) (f n : Nat) (b : Bool) (v : Value) (l : List (Nat × Nat)) (w : World) (h : TellS bx w v l) (hl : l.length ≤ 1000000) :
    Calls Try.prog 23 #[.int .i64 (f : Int), .int .i64 (n : Int), .bool b, .pointer (some ⟨bx, 0, none⟩)] w fun e w' => e = .returned (.tuple #[]) ∧ ∃ v', TellS bx w' v' (l ++ says b f n) ∧ Told bx w w' := by
  obtain ⟨i0, hi, hz0, hz1, hz2⟩ := info_parts Try.info43
  have HI := Lib.hid hi
  clear hi
  have cc : w.cell? ⟨bx, 0, none⟩ = some v := by unfold World.cell?; rw [h.cb]; rfl
  have fc : w.frozen? ⟨bx, 0, none⟩ = false := by unfold World.frozen?; rw [h.cb]; rfl
  have row := h.row
  have H := Lib.hid h
  have sz := h.sz
  clear h
  have hml : l.length + 1 ≤ maxLen := by unfold maxLen; omega
  have hml2 : (l.length + 1) * 16 ≤ 140737488355328 := by omega
  cases b with
  | true =>
    go_enter Try.func23, Try.ntmps23
    go_wp2
    go_end0
    exact ⟨rfl, v, by rw [says_true, List.append_nil]; exact H.out, Told.of (Below.refl _ _) (by omega)⟩
  | false =>
    go_enter Try.func23, Try.ntmps23
    go_wp2_with (at_builtin; refine wpList_append_own _ rfl _ _ 28 rfl (bx + 1) 43 i0 (.agg #[.int .i64 0, .int .i64 0]) 2 16 Try.underlying28 HI.out hz0 hz1 hz2 rfl (by decide) _ _ _ rfl (row.alloc _) ⟨w.heap.size, 0, none⟩ 1 1 (ftC (f, n)) rfl rfl (cells_pair w _ _ 43) (by simp [Value.oneCell', ftC]) hml hml2 (by simp; omega) ?_; intro v' w1 hown' hgrow _; have hgrow : (w.alloc (.cells #[.int .i64 (f : Int), .int .i64 (n : Int)] 43)).grownBy w1 v.ownBlock := hgrow; have hp := H.out.put hown' hgrow; obtain ⟨ao, vc, rfl⟩ := owns_dat hown'; have B1 : Below (bx + 1) w w1 := cgrown_below (Below.refl _ w) sz row hgrow; have cc1 := (B1.cell (p := ⟨bx, 0, none⟩) (Nat.lt_succ_self _)).trans cc; have fc1 := (B1.frozen (p := ⟨bx, 0, none⟩) (Nat.lt_succ_self _)).trans fc)
    go_end0
    exact ⟨rfl, _, hp⟩
end Go.Proofs
