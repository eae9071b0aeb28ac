/- What the program asks of a node at its place: the methods of seat, but for the mate. Conditions: none. -/
import Derived.Test.YtebkmcafahkdbaaG09
import Derived.Test.YtebkmcafahkdbaaG02
import Derived.Deep.CutRange
import Derived.Deep.CutBlock
namespace Go.Proofs
open Go.RowKit Go.Shelf Go.Canon
attribute [local go_sem] Oper.semAt_some

/-- A span, a node, and a node at its place with what it may be, as values. -/
def spanV (s : Int × Int) : Value := .agg #[.int .i64 s.1, .int .i64 s.2]
def ndV (d : Nd) : Value := .agg #[.int .i64 d.x, .int .i64 d.y, .int .i64 d.demand, .int .i64 d.ready, .int .i64 d.due, .int .i64 d.service, .int .i64 d.mate]
def boundsV (c d t m : Int × Int) : Value := .agg #[.int .i64 c.1, .int .i64 c.2, .int .i64 d.1, .int .i64 d.2, .int .i64 t.1, .int .i64 t.2, .int .i64 m.1, .int .i64 m.2]
def seatV (n : Nd) (c d t m : Int × Int) (i : Nat) : Value := .agg #[.int .i64 n.x, .int .i64 n.y, .int .i64 n.demand, .int .i64 n.ready, .int .i64 n.due, .int .i64 n.service, .int .i64 n.mate, .int .i64 c.1, .int .i64 c.2, .int .i64 d.1, .int .i64 d.2, .int .i64 t.1, .int .i64 t.2, .int .i64 m.1, .int .i64 m.2, .int .i64 (i : Int)]
theorem Try.has_hid (s : Int × Int) : Hid (∀ (n : Int) (w : World), Calls Try.prog 66 #[.agg #[.int .i64 s.1, .int .i64 s.2], .int .i64 n] w fun e w' => e = .returned (.bool (has s n)) ∧ Below w.heap.size w w') := fun n w => Try.has_calls s n w
set_option maxRecDepth 100000 in
theorem Try.demandFits_calls (n : Nd) (c d t m : Int × Int) (i : Nat) (w : World) :
    Calls Try.prog 76 #[seatV n c d t m i] w fun e w' => e = .returned (.bool (has d n.demand)) ∧ Below w.heap.size w w' := by
  have H := Try.has_hid d
  unfold seatV
  go_enter Try.func76, Try.ntmps76
  go_wp2_with (go_at_call 66; (with_reducible refine (H.out _ _).mono ?_); rintro e w1 ⟨rfl, hb1⟩)
  go_ret
  exact ⟨rfl, (below_box _ _).trans (hb1.mono (below_box _ _).size)⟩
set_option maxRecDepth 100000 in
theorem Try.serviceFits_calls (n : Nd) (c d t m : Int × Int) (i : Nat) (w : World) :
    Calls Try.prog 78 #[seatV n c d t m i] w fun e w' => e = .returned (.bool (has t n.service)) ∧ Below w.heap.size w w' := by
  have H := Try.has_hid t
  unfold seatV
  go_enter Try.func78, Try.ntmps78
  go_wp2_with (go_at_call 66; (with_reducible refine (H.out _ _).mono ?_); rintro e w1 ⟨rfl, hb1⟩)
  go_ret
  exact ⟨rfl, (below_box _ _).trans (hb1.mono (below_box _ _).size)⟩
theorem box_at {w w1 : World} {cs : Array Value} {t : TypeId} (hb : Below (w.alloc (.cells cs t)).heap.size (w.alloc (.cells cs t)) w1) (j : Nat) {u : Value} (h : cs[j]? = some u) : w1.cell? ⟨w.heap.size, j, none⟩ = some u := by
  have e : (w.alloc (.cells cs t)).heap[w.heap.size]? = some (.cells cs t) := World.alloc_heap_new w _
  have e1 := (hb.block w.heap.size (by show _ < (w.heap.push _).size; simp)).trans e
  unfold World.cell?; rw [e1]; exact h
set_option maxRecDepth 100000 in
theorem Try.coordFits_calls (n : Nd) (c d t m : Int × Int) (i : Nat) (w : World) :
    Calls Try.prog 75 #[seatV n c d t m i] w fun e w' => e = .returned (.bool (has c n.x && has c n.y)) ∧ Below w.heap.size w w' := by
  have H := Try.has_hid c
  unfold seatV
  have H1 := Lib.hid (fun W => H.out n.x W)
  have H2 := Lib.hid (fun W => H.out n.y W)
  clear H
  generalize has c n.x = b1 at *
  generalize has c n.y = b2 at *
  cases b1 with
  | false =>
    go_enter Try.func75, Try.ntmps75
    go_wp2_with (go_at_call 66; (with_reducible refine (H1.out _).mono ?_); rintro e w1 ⟨rfl, hb1⟩)
    go_ret
    exact ⟨rfl, (below_box _ _).trans (hb1.mono (below_box _ _).size)⟩
  | true =>
    go_enter Try.func75, Try.ntmps75
    go_wp2_with (fail)
    refine (H1.out _).mono ?_
    rintro e w1 ⟨rfl, hb1⟩
    have y1 := box_at hb1 1 rfl
    have y7 := box_at hb1 7 rfl
    have y8 := box_at hb1 8 rfl
    have hB := (below_box _ _).trans (hb1.mono (below_box _ _).size)
    clear hb1
    go_wp2_with (go_at_call 66; (with_reducible refine (H2.out _).mono ?_); rintro e w2 ⟨rfl, hb2⟩)
    go_ret
    exact ⟨rfl, hB.trans (hb2.mono hB.size)⟩
set_option maxRecDepth 100000 in
theorem Try.windowFits_calls (n : Nd) (c d t m : Int × Int) (i : Nat) (w : World) :
    Calls Try.prog 77 #[seatV n c d t m i] w fun e w' => e = .returned (.bool (has t n.ready && has t n.due && decide (n.ready ≤ n.due))) ∧ Below w.heap.size w w' := by
  have H := Try.has_hid t
  unfold seatV
  have H1 := Lib.hid (fun W => H.out n.ready W)
  have H2 := Lib.hid (fun W => H.out n.due W)
  clear H
  generalize has t n.ready = b1 at *
  generalize has t n.due = b2 at *
  cases b1 with
  | false =>
    go_enter Try.func77, Try.ntmps77
    go_wp2_with (go_at_call 66; (with_reducible refine (H1.out _).mono ?_); rintro e w1 ⟨rfl, hb1⟩)
    go_ret
    exact ⟨rfl, (below_box _ _).trans (hb1.mono (below_box _ _).size)⟩
  | true =>
    go_enter Try.func77, Try.ntmps77
    go_wp2_with (fail)
    refine (H1.out _).mono ?_
    rintro e w1 ⟨rfl, hb1⟩
    have y3 := box_at hb1 3 rfl
    have y4 := box_at hb1 4 rfl
    have y11 := box_at hb1 11 rfl
    have y12 := box_at hb1 12 rfl
    have hB := (below_box _ _).trans (hb1.mono (below_box _ _).size)
    have hlt : w.heap.size < w1.heap.size := Nat.lt_of_lt_of_le (by show _ < (w.heap.push _).size; simp) hb1.size
    clear hb1
    go_wp2_with (fail)
    refine (H2.out _).mono ?_
    rintro e w2 ⟨rfl, hb2⟩
    have z3 := (hb2.cell (p := ⟨w.heap.size, 3, none⟩) hlt).trans y3
    have z4 := (hb2.cell (p := ⟨w.heap.size, 4, none⟩) hlt).trans y4
    have hB2 := hB.trans (hb2.mono hB.size)
    clear hb2 y3 y4 y11 y12 hB
    cases b2 with
    | false =>
      go_wp2
      go_ret
      exact ⟨rfl, hB2⟩
    | true =>
      go_wp2
      go_ret
      exact ⟨by simp, hB2⟩
set_option maxRecDepth 100000 in
set_option maxHeartbeats 1000000 in
theorem Try.mateFits_calls (x : Ins) (vn vm : Value) (i : Nat) (c d t : Int × Int) (w : World) (hx : HasIns w vn vm x) (hi : i < x.nodes.length) (hn : x.nodes.length ≤ 400) :
    Calls Try.prog 79 #[seatV (at' x i) c d t (matesS x.kind i x.nodes.length) i, vn] w fun e w' => e = .returned (.bool (mateB x i)) ∧ Below w.heap.size w w' := by
  obtain ⟨b, off, cap, rfl, hlc, hcm, hb, hd⟩ := hx.two hi
  unfold mateB
  by_cases hk : x.kind ≠ 4 ∨ i = 0
  · have em : matesS x.kind i x.nodes.length = (0, 0) := by unfold matesS; rw [if_pos hk]
    rw [em, if_pos hk]
    have H := Lib.hid (fun W => (Try.has_hid (0, 0)).out (at' x i).mate W)
    unfold seatV
    clear hx hd hk em
    have eh : has (0, 0) (at' x i).mate = decide ((at' x i).mate = 0) := by unfold has; rw [Bool.eq_iff_iff]; simp; omega
    rw [eh] at H
    clear eh
    generalize (at' x i).mate = s at *
    by_cases h0 : s = 0
    · subst h0
      rw [show decide ((0 : Int) = 0) = true from rfl] at *
      go_enter Try.func79, Try.ntmps79
      go_wp2_with (fail)
      refine (H.out _).mono ?_
      rintro e w1 ⟨rfl, hb1⟩
      have y6 := box_at hb1 6 rfl
      have hB := (below_box _ _).trans (hb1.mono (below_box _ _).size)
      clear hb1
      go_wp2
      go_ret
      exact ⟨rfl, hB⟩
    · rw [show decide (s = 0) = false from decide_eq_false h0] at *
      clear h0
      go_enter Try.func79, Try.ntmps79
      go_wp2_with (go_at_call 66; (with_reducible refine (H.out _).mono ?_); rintro e w1 ⟨rfl, hb1⟩)
      go_ret
      exact ⟨rfl, (below_box _ _).trans (hb1.mono (below_box _ _).size)⟩
  · have em : matesS x.kind i x.nodes.length = (1, (x.nodes.length : Int) - 1) := by unfold matesS; rw [if_neg hk]
    rw [em, if_neg hk]
    have H := Lib.hid (fun W => (Try.has_hid (1, (x.nodes.length : Int) - 1)).out (at' x i).mate W)
    unfold seatV
    have D1 := fun j hj => (hd j hj).demand
    have d1 := fun j hj => (hd j hj).mate
    have X1 := fun j hj => (hd j hj).x
    have X2 := fun j hj => (hd j hj).y
    have X3 := fun j hj => (hd j hj).ready
    have X4 := fun j hj => (hd j hj).due
    have X5 := fun j hj => (hd j hj).service
    clear hx hd em hk
    generalize x.nodes.length = L at *
    generalize hs : (at' x i).mate = s at H ⊢
    generalize (at' x i).demand = di at *
    by_cases h1 : s < 1 ∨ (L : Int) ≤ s
    · have eh : has (1, (L : Int) - 1) s = false := by unfold has; rw [Bool.eq_false_iff]; simp; omega
      rw [if_pos (by omega)]
      rw [eh] at H
      clear eh D1 d1 X1 X2 X3 X4 X5 hs h1
      go_enter Try.func79, Try.ntmps79
      go_wp2_with (go_at_call 66; (with_reducible refine (H.out _).mono ?_); rintro e w1 ⟨rfl, hb1⟩)
      go_ret
      exact ⟨rfl, (below_box _ _).trans (hb1.mono (below_box _ _).size)⟩
    · have eh : has (1, (L : Int) - 1) s = true := by unfold has; simp; omega
      rw [eh] at H
      obtain ⟨m, rfl⟩ : ∃ m : Nat, s = (m : Int) := ⟨s.toNat, by omega⟩
      have hm : m < L := by omega
      have hm0 : ((m : Int) == 0) = false := beq_eq_false_iff_ne.2 (by omega)
      have mm : (m : Int) < (L : Int) := by omega
      simp only [Int.toNat_natCast]
      have x0 := X1 m hm
      have x1 := X2 m hm
      have x2 := D1 m hm
      have x3 := X3 m hm
      have x4 := X4 m hm
      have x5 := X5 m hm
      have x6 := d1 m hm
      have hres : (if (m : Int) < 1 ∨ (L : Int) ≤ (m : Int) ∨ (m : Int) = (i : Int) ∨ (at' x m).mate ≠ (i : Int) then false else decide (di ≠ 0) && decide ((at' x m).demand = neg64 di)) = ((m : Int) != (i : Int) && ((at' x m).mate == (i : Int)) && ((at' x m).demand == neg64 di) && (di != 0)) := by
        by_cases h3 : (m : Int) = (i : Int)
        · rw [if_pos (by omega)]; simp [h3]
        · by_cases h4 : (at' x m).mate = (i : Int)
          · rw [if_neg (by omega), Bool.eq_iff_iff]; simp [h4]; omega
          · rw [if_pos (by omega)]; simp [h4]
      rw [hres, ← wrap_neg]
      clear eh D1 d1 X1 X2 X3 X4 X5 hs h1 hres hi
      have HL := Lib.hid hn
      have HC := Lib.hid hlc
      clear hn hlc
      generalize (at' x m).mate = tm at *
      generalize (at' x m).demand = td at *
      go_enter Try.func79, Try.ntmps79
      go_wp2_with (fail)
      refine (H.out _).mono ?_
      rintro e w1 ⟨rfl, hb1⟩
      have y6 := box_at hb1 6 rfl
      have y2 := box_at hb1 2 rfl
      have y15 := box_at hb1 15 rfl
      have hB := (below_box _ _).trans (hb1.mono (below_box _ _).size)
      have k0 := (hB.cell (p := ⟨b, off + m * 7, none⟩) hb).trans x0
      have k1 := (hB.cell (p := ⟨b, off + m * 7 + 1, none⟩) hb).trans x1
      have k2 := (hB.cell (p := ⟨b, off + m * 7 + 2, none⟩) hb).trans x2
      have k3 := (hB.cell (p := ⟨b, off + m * 7 + 3, none⟩) hb).trans x3
      have k4 := (hB.cell (p := ⟨b, off + m * 7 + 4, none⟩) hb).trans x4
      have k5 := (hB.cell (p := ⟨b, off + m * 7 + 5, none⟩) hb).trans x5
      have k6 := (hB.cell (p := ⟨b, off + m * 7 + 6, none⟩) hb).trans x6
      have hlt : w.heap.size < w1.heap.size := Nat.lt_of_lt_of_le (by show _ < (w.heap.push _).size; simp) hb1.size
      have z6 : ∀ o, (w1.alloc o).cell? ⟨w.heap.size, 6, none⟩ = some (.int .i64 (m : Int)) := fun o => ((below_box w1 o).cell (p := ⟨w.heap.size, 6, none⟩) hlt).trans y6
      have z2 : ∀ o, (w1.alloc o).cell? ⟨w.heap.size, 2, none⟩ = some (.int .i64 di) := fun o => ((below_box w1 o).cell (p := ⟨w.heap.size, 2, none⟩) hlt).trans y2
      have z15 : ∀ o, (w1.alloc o).cell? ⟨w.heap.size, 15, none⟩ = some (.int .i64 (i : Int)) := fun o => ((below_box w1 o).cell (p := ⟨w.heap.size, 15, none⟩) hlt).trans y15
      clear hb1 x0 x1 x2 x3 x4 x5 x6 H
      cases h3 : ((m : Int) != (i : Int)) with
      | false =>
        go_wp2
        go_ret
        exact ⟨cret_is (by rw [h3]; simp), hB.alloc hB.size _⟩
      | true =>
        cases h4 : (tm == (i : Int)) with
        | false =>
          go_wp2
          go_ret
          exact ⟨cret_is (by rw [h3, h4]; simp), hB.alloc hB.size _⟩
        | true =>
          cases h5 : (td == wrap64 (-di)) with
          | false =>
            go_wp2
            go_ret
            exact ⟨cret_is (by rw [h3, h4, h5]; simp), hB.alloc hB.size _⟩
          | true =>
            go_wp2
            go_ret
            exact ⟨cret_is (by rw [h3, h4, h5]; simp), hB.alloc hB.size _⟩
end Go.Proofs
/- What a node may be at its place: boundsOf. Conditions: a million nodes at most. -/
namespace Go.Proofs
open Go.RowKit Go.Shelf Go.Canon
attribute [local go_sem] Oper.semAt_some

/-- What stands in the middle of boundsOf: the instance in its box, the result's cells, the bounds so far. -/
structure BdS (w : World) (x : Ins) (vn vm : Value) (W : World) (c d t m : Int × Int) : Prop where
  pb : W.heap[w.heap.size]? = some (.cells #[.string x.name, .int .i64 x.kind, .int .i64 x.metric, .int .i64 x.scale, .int .i64 x.cap, .int .i64 x.fleet, vn, vm] 25)
  rb : W.heap[w.heap.size + 1]? = some (.cells #[.int .i64 0, .int .i64 0, .int .i64 0, .int .i64 0, .int .i64 0, .int .i64 0, .int .i64 0, .int .i64 0] 78)
  yb : W.heap[w.heap.size + 2]? = some (.cells #[.int .i64 c.1, .int .i64 c.2, .int .i64 d.1, .int .i64 d.2, .int .i64 t.1, .int .i64 t.2, .int .i64 m.1, .int .i64 m.2] 78)
  sz : w.heap.size + 3 ≤ W.heap.size
  below : Below w.heap.size w W
theorem three_blocks (w : World) (A B C : Obj) : (((w.alloc A).alloc B).alloc C).heap[w.heap.size]? = some A ∧ (((w.alloc A).alloc B).alloc C).heap[w.heap.size + 1]? = some B ∧ (((w.alloc A).alloc B).alloc C).heap[w.heap.size + 2]? = some C ∧ (((w.alloc A).alloc B).alloc C).heap.size = w.heap.size + 3 := by
  have s1 : (w.alloc A).heap.size = w.heap.size + 1 := by show (w.heap.push _).size = _; simp
  have s2 : ((w.alloc A).alloc B).heap.size = w.heap.size + 2 := by show (Array.push _ _).size = _; rw [Array.size_push, s1]
  have s3 : (((w.alloc A).alloc B).alloc C).heap.size = w.heap.size + 3 := by show (Array.push _ _).size = _; rw [Array.size_push, s2]
  have B3 : Below ((w.alloc A).alloc B).heap.size ((w.alloc A).alloc B) (((w.alloc A).alloc B).alloc C) := below_box _ _
  have B2 : Below (w.alloc A).heap.size (w.alloc A) (((w.alloc A).alloc B).alloc C) := below_two _ _ _
  refine ⟨?_, ?_, ?_, s3⟩
  · rw [B2.block w.heap.size (by rw [s1]; exact Nat.lt_succ_self _), World.alloc_heap_new]
  · have h := World.alloc_heap_new (w.alloc A) B
    rw [s1] at h
    rw [B3.block (w.heap.size + 1) (by rw [s2]; omega), h]
  · have h := World.alloc_heap_new ((w.alloc A).alloc B) C
    rw [s2] at h
    exact h
theorem bd_start (w : World) (x : Ins) (vn vm : Value) : BdS w x vn vm (((w.alloc (.cells #[.string x.name, .int .i64 x.kind, .int .i64 x.metric, .int .i64 x.scale, .int .i64 x.cap, .int .i64 x.fleet, vn, vm] 25)).alloc (.cells #[.int .i64 0, .int .i64 0, .int .i64 0, .int .i64 0, .int .i64 0, .int .i64 0, .int .i64 0, .int .i64 0] 78)).alloc (.cells #[.int .i64 0, .int .i64 0, .int .i64 0, .int .i64 0, .int .i64 0, .int .i64 0, .int .i64 0, .int .i64 0] 78)) (0, 0) (0, 0) (0, 0) (0, 0) := by
  obtain ⟨h1, h2, h3, h4⟩ := three_blocks w (.cells #[.string x.name, .int .i64 x.kind, .int .i64 x.metric, .int .i64 x.scale, .int .i64 x.cap, .int .i64 x.fleet, vn, vm] 25) (.cells #[.int .i64 0, .int .i64 0, .int .i64 0, .int .i64 0, .int .i64 0, .int .i64 0, .int .i64 0, .int .i64 0] 78) (.cells #[.int .i64 0, .int .i64 0, .int .i64 0, .int .i64 0, .int .i64 0, .int .i64 0, .int .i64 0, .int .i64 0] 78)
  exact ⟨h1, h2, h3, by omega, (below_two _ _ _).alloc (below_two _ _ _).size _⟩
theorem BdS.next {w W W' : World} {x : Ins} {vn vm : Value} {c d t m : Int × Int} (h : BdS w x vn vm W c d t m) (hb : Below W.heap.size W W') : BdS w x vn vm W' c d t m := by
  have := h.sz
  exact ⟨(hb.block _ (by omega)).trans h.pb, (hb.block _ (by omega)).trans h.rb, (hb.block _ (by omega)).trans h.yb, Nat.le_trans h.sz hb.size, h.below.trans (hb.mono (by omega))⟩
theorem BdS.p {w W : World} {x : Ins} {vn vm : Value} {c d t m : Int × Int} (h : BdS w x vn vm W c d t m) (j : Nat) : W.cell? ⟨w.heap.size, j, none⟩ = (#[Value.string x.name, .int .i64 x.kind, .int .i64 x.metric, .int .i64 x.scale, .int .i64 x.cap, .int .i64 x.fleet, vn, vm] : Array Value)[j]? := by
  unfold World.cell?; rw [h.pb]; rfl
theorem BdS.r {w W : World} {x : Ins} {vn vm : Value} {c d t m : Int × Int} (h : BdS w x vn vm W c d t m) (j : Nat) : W.cell? ⟨w.heap.size + 1, j, none⟩ = (#[Value.int .i64 0, .int .i64 0, .int .i64 0, .int .i64 0, .int .i64 0, .int .i64 0, .int .i64 0, .int .i64 0] : Array Value)[j]? := by
  unfold World.cell?; rw [h.rb]; rfl
theorem BdS.y {w W : World} {x : Ins} {vn vm : Value} {c d t m : Int × Int} (h : BdS w x vn vm W c d t m) (j : Nat) : W.cell? ⟨w.heap.size + 2, j, none⟩ = (#[Value.int .i64 c.1, .int .i64 c.2, .int .i64 d.1, .int .i64 d.2, .int .i64 t.1, .int .i64 t.2, .int .i64 m.1, .int .i64 m.2] : Array Value)[j]? := by
  unfold World.cell?; rw [h.yb]; rfl
theorem BdS.fr {w W : World} {x : Ins} {vn vm : Value} {c d t m : Int × Int} (h : BdS w x vn vm W c d t m) (j : Nat) : W.frozen? ⟨w.heap.size + 1, j, none⟩ = false := by
  unfold World.frozen?; rw [h.rb]; rfl
theorem BdS.fy {w W : World} {x : Ins} {vn vm : Value} {c d t m : Int × Int} (h : BdS w x vn vm W c d t m) (j : Nat) : W.frozen? ⟨w.heap.size + 2, j, none⟩ = false := by
  unfold World.frozen?; rw [h.yb]; rfl
theorem BdS.set {w W : World} {x : Ins} {vn vm : Value} {c d t m c' d' t' m' : Int × Int} {j : Nat} {u v : Int} (h : BdS w x vn vm W c d t m) (he : ((#[Value.int .i64 c.1, .int .i64 c.2, .int .i64 d.1, .int .i64 d.2, .int .i64 t.1, .int .i64 t.2, .int .i64 m.1, .int .i64 m.2] : Array Value).setIfInBounds j (.int .i64 u)).setIfInBounds (j + 1) (.int .i64 v) = #[Value.int .i64 c'.1, .int .i64 c'.2, .int .i64 d'.1, .int .i64 d'.2, .int .i64 t'.1, .int .i64 t'.2, .int .i64 m'.1, .int .i64 m'.2]) : BdS w x vn vm ((W.setCell ⟨w.heap.size + 2, j, none⟩ (.int .i64 u)).setCell ⟨w.heap.size + 2, j + 1, none⟩ (.int .i64 v)) c' d' t' m' := by
  have hs := h.sz
  have hset : ∀ k, k ≠ w.heap.size + 2 → ((W.setCell ⟨w.heap.size + 2, j, none⟩ (.int .i64 u)).setCell ⟨w.heap.size + 2, j + 1, none⟩ (.int .i64 v)).heap[k]? = W.heap[k]? := fun k hk => by
    rw [Below.heap_setCell _ _ _ _ hk, Below.heap_setCell _ _ _ _ hk]
  refine ⟨(hset _ (by omega)).trans h.pb, (hset _ (by omega)).trans h.rb, ?_, by simpa [World.setCell] using hs, (h.below.setCell (by show w.heap.size ≤ w.heap.size + 2; omega) _).setCell (by show w.heap.size ≤ w.heap.size + 2; omega) _⟩
  have e := h.yb
  rw [← he]
  simp [World.setCell, Array.getElem?_modify, e]
set_option maxRecDepth 100000 in
set_option maxHeartbeats 1000000 in
theorem Try.boundsOf_calls (x : Ins) (vn vm : Value) (i : Nat) (w : World) (hx : HasIns w vn vm x) (hn : x.nodes.length ≤ 1000000) :
    Calls Try.prog 74 #[insV x vn vm, .int .i64 (i : Int)] w fun e w' => e = .returned (boundsV (coordsS x.metric) (demandsS x.kind i) (timesS x.kind) (matesS x.kind i x.nodes.length)) ∧ Below w.heap.size w w' := by
  have HS := Lib.hid (fun W => Try.signed_calls W)
  have HN := Lib.hid (fun W => Try.numbers_calls W)
  obtain ⟨an, cn, rfl, _⟩ := hx.nodes.dat
  obtain ⟨am, cm, rfl, _⟩ := hx.matrix.dat
  unfold insV
  clear hx
  generalize x.matrix.length = M
  obtain ⟨L, hL⟩ : ∃ L, x.nodes.length = L := ⟨_, rfl⟩
  rw [hL] at hn ⊢
  clear hL
  go_enter Try.func74, Try.ntmps74
  go_upto_region 2 with (fail)
  have S0 := Lib.hid (bd_start w x (.slice an L cn) (.slice am M cm))
  have p2 : _ = some (Value.int .i64 x.metric) := S0.out.p 2
  go_upto_if 8 with (fail)
  clear p2
  go_cut [7] from 6 to 10 (fun _ wx => BdS w x (.slice an L cn) (.slice am M cm) wx (coordsS x.metric) (0, 0) (0, 0) (0, 0))
  case first =>
    by_cases hm : x.metric = 0
    · have k : (x.metric != 0) = false := by simp [hm]
      have e : coordsS x.metric = (0, 0) := by unfold coordsS; rw [if_neg (by simpa using hm)]
      have HE := Lib.hid e
      clear hm e
      go_wp2
      go_meet
      rw [HE.out]; exact S0.out
    · have k : (x.metric != 0) = true := bne_iff_ne.2 hm
      have e : coordsS x.metric = (-100000000, 100000000) := by unfold coordsS; rw [if_pos hm]
      have HE := Lib.hid e
      clear hm e
      go_wp2_with (fail)
      refine (HS.out _).mono ?_
      rintro e w1 ⟨rfl, hb1⟩
      have S1 := S0.out.next hb1
      have y0 : w1.cell? ⟨w.heap.size + 1 + 1, 0, none⟩ = some _ := S1.y 0
      have g0 : w1.frozen? ⟨w.heap.size + 1 + 1, 0, none⟩ = false := S1.fy 0
      have y1 : w1.cell? ⟨w.heap.size + 1 + 1, 1, none⟩ = some _ := S1.y 1
      have g1 : w1.frozen? ⟨w.heap.size + 1 + 1, 1, none⟩ = false := S1.fy 1
      have R := Lib.hid (S1.set (j := 0) (u := -100000000) (v := 100000000) (c' := (-100000000, 100000000)) (d' := (0, 0)) (t' := (0, 0)) (m' := (0, 0)) rfl)
      clear S1 hb1
      go_wp2
      go_meet
      rw [HE.out]; exact R.out
  case rest =>
  have HC := Lib.hid hcut
  have p1 : wc.cell? ⟨w.heap.size, 1, none⟩ = some (.int .i64 x.kind) := hcut.p 1
  clear hcut S0
  go_upto_region 4 with (fail)
  go_cut [18] from 6 to 18 (fun s18 wx => wx = wc ∧ s18 = .bool (!(decide (x.kind = 1) || decide (x.kind = 2))))
  case first =>
    by_cases h1 : x.kind = 1
    · have k1 : (x.kind != 1) = false := by simp [h1]
      have e : (!(decide (x.kind = 1) || decide (x.kind = 2))) = false := by simp [h1]
      have HE := Lib.hid e
      clear h1 e
      go_wp2
      go_meet
      rw [HE.out]; exact ⟨rfl, rfl⟩
    · have k1 : (x.kind != 1) = true := bne_iff_ne.2 h1
      by_cases h2 : x.kind = 2
      · have k2 : (x.kind != 2) = false := by simp [h2]
        have e : (!(decide (x.kind = 1) || decide (x.kind = 2))) = false := by simp [h2]
        have HE := Lib.hid e
        clear h1 h2 e
        go_wp2
        go_meet
        rw [HE.out]; exact ⟨rfl, rfl⟩
      · have k2 : (x.kind != 2) = true := bne_iff_ne.2 h2
        have e : (!(decide (x.kind = 1) || decide (x.kind = 2))) = true := by simp [h1, h2]
        have HE := Lib.hid e
        clear h1 h2 e
        go_wp2
        go_meet
        rw [HE.out]; exact ⟨rfl, rfl⟩
  case rest =>
  obtain ⟨hw, rfl⟩ := hcut
  obtain rfl := hw
  clear p1
  go_upto_if 18 with (fail)
  go_cut [7] from 6 to 20 (fun _ wx => BdS w x (.slice an L cn) (.slice am M cm) wx (coordsS x.metric) (0, 0) (timesS x.kind) (0, 0))
  case first =>
    by_cases hk : x.kind = 1 ∨ x.kind = 2
    · have e : (!(decide (x.kind = 1) || decide (x.kind = 2))) = false := by simp; omega
      have et : timesS x.kind = (0, 0) := by unfold timesS; rw [if_pos hk]
      have HE := Lib.hid et
      rw [e]
      clear hk e et
      go_wp2
      go_meet
      rw [HE.out]; exact HC.out
    · have e : (!(decide (x.kind = 1) || decide (x.kind = 2))) = true := by simp; omega
      have et : timesS x.kind = (0, 100000000) := by unfold timesS; rw [if_neg hk]
      have HE := Lib.hid et
      rw [e]
      clear hk e et
      go_wp2_with (fail)
      refine (HN.out _).mono ?_
      rintro e w1 ⟨rfl, hb1⟩
      have S1 := HC.out.next hb1
      have y4 : w1.cell? ⟨w.heap.size + 1 + 1, 4, none⟩ = some _ := S1.y 4
      have g4 : w1.frozen? ⟨w.heap.size + 1 + 1, 4, none⟩ = false := S1.fy 4
      have y5 : w1.cell? ⟨w.heap.size + 1 + 1, 5, none⟩ = some _ := S1.y 5
      have g5 : w1.frozen? ⟨w.heap.size + 1 + 1, 5, none⟩ = false := S1.fy 5
      have R := Lib.hid (S1.set (j := 4) (u := 0) (v := 100000000) (c' := coordsS x.metric) (d' := (0, 0)) (t' := (0, 100000000)) (m' := (0, 0)) rfl)
      clear S1 hb1
      go_wp2
      go_meet
      rw [HE.out]; exact R.out
  case rest =>
  clear HC
  obtain ⟨W, hW⟩ : ∃ W, W = wc := ⟨_, rfl⟩
  subst hW
  have S2 := hcut
  have HC := Lib.hid hcut
  have p1 : W.cell? ⟨w.heap.size, 1, none⟩ = some (.int .i64 x.kind) := hcut.p 1
  clear hcut
  by_cases hi : x.kind = 1 ∨ i = 0
  · have ed : demandsS x.kind i = (0, 0) := by unfold demandsS; rw [if_pos hi]
    have em : matesS x.kind i L = (0, 0) := by unfold matesS; rw [if_pos (by omega)]
    have HE := Lib.hid ed
    have HM := Lib.hid em
    have k0 : ((i : Int) == 0) = true ∨ ((i : Int) == 0) = false ∧ (x.kind == 1) = true := by
      by_cases h : i = 0
      · exact .inl (beq_iff_eq.2 (by omega))
      · exact .inr ⟨beq_eq_false_iff_ne.2 (by omega), beq_iff_eq.2 (by omega)⟩
    clear ed em hi
    rcases k0 with k0 | ⟨k0, k1⟩
    · have r0 := S2.r 0
      have r0 : W.cell? ⟨w.heap.size + 1, 0, none⟩ = some (.int .i64 0) := S2.r 0
      have f0 : W.frozen? ⟨w.heap.size + 1, 0, none⟩ = false := S2.fr 0
      have y0 : W.cell? ⟨w.heap.size + 1 + 1, 0, none⟩ = some (.int .i64 (coordsS x.metric).1) := S2.y 0
      have r1 : W.cell? ⟨w.heap.size + 1, 1, none⟩ = some (.int .i64 0) := S2.r 1
      have f1 : W.frozen? ⟨w.heap.size + 1, 1, none⟩ = false := S2.fr 1
      have y1 : W.cell? ⟨w.heap.size + 1 + 1, 1, none⟩ = some (.int .i64 (coordsS x.metric).2) := S2.y 1
      have r2 : W.cell? ⟨w.heap.size + 1, 2, none⟩ = some (.int .i64 0) := S2.r 2
      have f2 : W.frozen? ⟨w.heap.size + 1, 2, none⟩ = false := S2.fr 2
      have y2 : W.cell? ⟨w.heap.size + 1 + 1, 2, none⟩ = some (.int .i64 ((0 : Int), (0 : Int)).1) := S2.y 2
      have r3 : W.cell? ⟨w.heap.size + 1, 3, none⟩ = some (.int .i64 0) := S2.r 3
      have f3 : W.frozen? ⟨w.heap.size + 1, 3, none⟩ = false := S2.fr 3
      have y3 : W.cell? ⟨w.heap.size + 1 + 1, 3, none⟩ = some (.int .i64 ((0 : Int), (0 : Int)).2) := S2.y 3
      have r4 : W.cell? ⟨w.heap.size + 1, 4, none⟩ = some (.int .i64 0) := S2.r 4
      have f4 : W.frozen? ⟨w.heap.size + 1, 4, none⟩ = false := S2.fr 4
      have y4 : W.cell? ⟨w.heap.size + 1 + 1, 4, none⟩ = some (.int .i64 (timesS x.kind).1) := S2.y 4
      have r5 : W.cell? ⟨w.heap.size + 1, 5, none⟩ = some (.int .i64 0) := S2.r 5
      have f5 : W.frozen? ⟨w.heap.size + 1, 5, none⟩ = false := S2.fr 5
      have y5 : W.cell? ⟨w.heap.size + 1 + 1, 5, none⟩ = some (.int .i64 (timesS x.kind).2) := S2.y 5
      have r6 : W.cell? ⟨w.heap.size + 1, 6, none⟩ = some (.int .i64 0) := S2.r 6
      have f6 : W.frozen? ⟨w.heap.size + 1, 6, none⟩ = false := S2.fr 6
      have y6 : W.cell? ⟨w.heap.size + 1 + 1, 6, none⟩ = some (.int .i64 ((0 : Int), (0 : Int)).1) := S2.y 6
      have r7 : W.cell? ⟨w.heap.size + 1, 7, none⟩ = some (.int .i64 0) := S2.r 7
      have f7 : W.frozen? ⟨w.heap.size + 1, 7, none⟩ = false := S2.fr 7
      have y7 : W.cell? ⟨w.heap.size + 1 + 1, 7, none⟩ = some (.int .i64 ((0 : Int), (0 : Int)).2) := S2.y 7
      have HB := Lib.hid S2.below
      clear S2
      go_wp2
      refine bodyPost_ret (v := boundsV (coordsS x.metric) ((0 : Int), (0 : Int)) (timesS x.kind) ((0 : Int), (0 : Int))) (by simp [results, Try.results74, go_sem, boundsV, r0, r1, r2, r3, r4, r5, r6, r7]) rfl ⟨by rw [HE.out, HM.out], ?_⟩
      exact ((((((((HB.out.setCell (by show w.heap.size ≤ w.heap.size + 1; omega) _).setCell (by show w.heap.size ≤ w.heap.size + 1; omega) _).setCell (by show w.heap.size ≤ w.heap.size + 1; omega) _).setCell (by show w.heap.size ≤ w.heap.size + 1; omega) _).setCell (by show w.heap.size ≤ w.heap.size + 1; omega) _).setCell (by show w.heap.size ≤ w.heap.size + 1; omega) _).setCell (by show w.heap.size ≤ w.heap.size + 1; omega) _).setCell (by show w.heap.size ≤ w.heap.size + 1; omega) _)
    · have r0 := S2.r 0
      have r0 : W.cell? ⟨w.heap.size + 1, 0, none⟩ = some (.int .i64 0) := S2.r 0
      have f0 : W.frozen? ⟨w.heap.size + 1, 0, none⟩ = false := S2.fr 0
      have y0 : W.cell? ⟨w.heap.size + 1 + 1, 0, none⟩ = some (.int .i64 (coordsS x.metric).1) := S2.y 0
      have r1 : W.cell? ⟨w.heap.size + 1, 1, none⟩ = some (.int .i64 0) := S2.r 1
      have f1 : W.frozen? ⟨w.heap.size + 1, 1, none⟩ = false := S2.fr 1
      have y1 : W.cell? ⟨w.heap.size + 1 + 1, 1, none⟩ = some (.int .i64 (coordsS x.metric).2) := S2.y 1
      have r2 : W.cell? ⟨w.heap.size + 1, 2, none⟩ = some (.int .i64 0) := S2.r 2
      have f2 : W.frozen? ⟨w.heap.size + 1, 2, none⟩ = false := S2.fr 2
      have y2 : W.cell? ⟨w.heap.size + 1 + 1, 2, none⟩ = some (.int .i64 ((0 : Int), (0 : Int)).1) := S2.y 2
      have r3 : W.cell? ⟨w.heap.size + 1, 3, none⟩ = some (.int .i64 0) := S2.r 3
      have f3 : W.frozen? ⟨w.heap.size + 1, 3, none⟩ = false := S2.fr 3
      have y3 : W.cell? ⟨w.heap.size + 1 + 1, 3, none⟩ = some (.int .i64 ((0 : Int), (0 : Int)).2) := S2.y 3
      have r4 : W.cell? ⟨w.heap.size + 1, 4, none⟩ = some (.int .i64 0) := S2.r 4
      have f4 : W.frozen? ⟨w.heap.size + 1, 4, none⟩ = false := S2.fr 4
      have y4 : W.cell? ⟨w.heap.size + 1 + 1, 4, none⟩ = some (.int .i64 (timesS x.kind).1) := S2.y 4
      have r5 : W.cell? ⟨w.heap.size + 1, 5, none⟩ = some (.int .i64 0) := S2.r 5
      have f5 : W.frozen? ⟨w.heap.size + 1, 5, none⟩ = false := S2.fr 5
      have y5 : W.cell? ⟨w.heap.size + 1 + 1, 5, none⟩ = some (.int .i64 (timesS x.kind).2) := S2.y 5
      have r6 : W.cell? ⟨w.heap.size + 1, 6, none⟩ = some (.int .i64 0) := S2.r 6
      have f6 : W.frozen? ⟨w.heap.size + 1, 6, none⟩ = false := S2.fr 6
      have y6 : W.cell? ⟨w.heap.size + 1 + 1, 6, none⟩ = some (.int .i64 ((0 : Int), (0 : Int)).1) := S2.y 6
      have r7 : W.cell? ⟨w.heap.size + 1, 7, none⟩ = some (.int .i64 0) := S2.r 7
      have f7 : W.frozen? ⟨w.heap.size + 1, 7, none⟩ = false := S2.fr 7
      have y7 : W.cell? ⟨w.heap.size + 1 + 1, 7, none⟩ = some (.int .i64 ((0 : Int), (0 : Int)).2) := S2.y 7
      have HB := Lib.hid S2.below
      clear S2
      go_wp2
      refine bodyPost_ret (v := boundsV (coordsS x.metric) ((0 : Int), (0 : Int)) (timesS x.kind) ((0 : Int), (0 : Int))) (by simp [results, Try.results74, go_sem, boundsV, r0, r1, r2, r3, r4, r5, r6, r7]) rfl ⟨by rw [HE.out, HM.out], ?_⟩
      exact ((((((((HB.out.setCell (by show w.heap.size ≤ w.heap.size + 1; omega) _).setCell (by show w.heap.size ≤ w.heap.size + 1; omega) _).setCell (by show w.heap.size ≤ w.heap.size + 1; omega) _).setCell (by show w.heap.size ≤ w.heap.size + 1; omega) _).setCell (by show w.heap.size ≤ w.heap.size + 1; omega) _).setCell (by show w.heap.size ≤ w.heap.size + 1; omega) _).setCell (by show w.heap.size ≤ w.heap.size + 1; omega) _).setCell (by show w.heap.size ≤ w.heap.size + 1; omega) _)
  · have k0 : ((i : Int) == 0) = false := beq_eq_false_iff_ne.2 (by omega)
    have k1 : (x.kind == 1) = false := beq_eq_false_iff_ne.2 (by omega)
    have hd0 : demandsS x.kind i = if x.kind = 4 then ((-100000000 : Int), (100000000 : Int)) else ((0 : Int), (100000000 : Int)) := by unfold demandsS; rw [if_neg hi]
    have hm0 : matesS x.kind i L = if x.kind = 4 then (1, (L : Int) - 1) else (0, 0) := by
      unfold matesS
      by_cases h4 : x.kind = 4
      · rw [if_neg (by omega), if_pos h4]
      · rw [if_pos (by omega), if_neg h4]
    have HD0 := Lib.hid hd0
    have HM0 := Lib.hid hm0
    clear hd0 hm0 hi S2
    go_wp2_with (fail)
    refine (HN.out _).mono ?_
    rintro e w1 ⟨rfl, hb1⟩
    have S1 := HC.out.next hb1
    have y2 : w1.cell? ⟨w.heap.size + 1 + 1, 2, none⟩ = some _ := S1.y 2
    have g2 : w1.frozen? ⟨w.heap.size + 1 + 1, 2, none⟩ = false := S1.fy 2
    have y3 : w1.cell? ⟨w.heap.size + 1 + 1, 3, none⟩ = some _ := S1.y 3
    have g3 : w1.frozen? ⟨w.heap.size + 1 + 1, 3, none⟩ = false := S1.fy 3
    have R := Lib.hid (S1.set (j := 2) (u := 0) (v := 100000000) (c' := coordsS x.metric) (d' := ((0 : Int), (100000000 : Int))) (t' := timesS x.kind) (m' := (0, 0)) rfl)
    clear S1 hb1 p1 HC
    go_upto_region 9 with (fail)
    clear y2 y3 g2 g3
    generalize hW : (w1.setCell ⟨w.heap.size + 1 + 1, 2, none⟩ (.int .i64 0)).setCell ⟨w.heap.size + 1 + 1, 3, none⟩ (.int .i64 100000000) = W3
    have S3 : BdS w x (.slice an L cn) (.slice am M cm) W3 (coordsS x.metric) ((0 : Int), (100000000 : Int)) (timesS x.kind) (0, 0) := by rw [← hW]; exact R.out
    clear hW R
    have p1 : W3.cell? ⟨w.heap.size, 1, none⟩ = some (.int .i64 x.kind) := S3.p 1
    have HC := Lib.hid S3
    by_cases h4 : x.kind = 4
    · have ed : demandsS x.kind i = ((-100000000 : Int), (100000000 : Int)) := HD0.out.trans (if_pos h4)
      have em : matesS x.kind i L = (1, (L : Int) - 1) := HM0.out.trans (if_pos h4)
      have HE := Lib.hid ed
      have HM := Lib.hid em
      have k4 : (x.kind == 4) = true := beq_iff_eq.2 h4
      clear ed em h4 HD0 HM0 S3
      go_wp2_with (fail)
      refine (HS.out _).mono ?_
      rintro e w4 ⟨rfl, hb4⟩
      have S4 := HC.out.next hb4
      have y2 : w4.cell? ⟨w.heap.size + 1 + 1, 2, none⟩ = some _ := S4.y 2
      have g2 : w4.frozen? ⟨w.heap.size + 1 + 1, 2, none⟩ = false := S4.fy 2
      have y3 : w4.cell? ⟨w.heap.size + 1 + 1, 3, none⟩ = some _ := S4.y 3
      have g3 : w4.frozen? ⟨w.heap.size + 1 + 1, 3, none⟩ = false := S4.fy 3
      have R := Lib.hid (S4.set (j := 2) (u := -100000000) (v := 100000000) (c' := coordsS x.metric) (d' := ((-100000000 : Int), (100000000 : Int))) (t' := timesS x.kind) (m' := (0, 0)) rfl)
      clear S4 hb4 HC p1
      go_upto_region 11 with (fail)
      clear y2 y3 g2 g3
      generalize hW : (w4.setCell ⟨w.heap.size + 1 + 1, 2, none⟩ (.int .i64 (-100000000))).setCell ⟨w.heap.size + 1 + 1, 3, none⟩ (.int .i64 100000000) = W5
      have S5 : BdS w x (.slice an L cn) (.slice am M cm) W5 (coordsS x.metric) ((-100000000 : Int), (100000000 : Int)) (timesS x.kind) (0, 0) := by rw [← hW]; exact R.out
      clear hW R
      have p6 : W5.cell? ⟨w.heap.size, 6, none⟩ = some (.slice an L cn) := S5.p 6
      have y6 : W5.cell? ⟨w.heap.size + 1 + 1, 6, none⟩ = some _ := S5.y 6
      have g6 : W5.frozen? ⟨w.heap.size + 1 + 1, 6, none⟩ = false := S5.fy 6
      have y7 : W5.cell? ⟨w.heap.size + 1 + 1, 7, none⟩ = some _ := S5.y 7
      have g7 : W5.frozen? ⟨w.heap.size + 1 + 1, 7, none⟩ = false := S5.fy 7
      have R := Lib.hid (S5.set (j := 6) (u := 1) (v := (L : Int) - 1) (c' := coordsS x.metric) (d' := ((-100000000 : Int), (100000000 : Int))) (t' := timesS x.kind) (m' := ((1 : Int), (L : Int) - 1)) rfl)
      clear S5
      go_upto_region 12 with (fail)
      clear y6 y7 g6 g7 p6
      generalize hW : (W5.setCell ⟨w.heap.size + 1 + 1, 6, none⟩ (.int .i64 1)).setCell ⟨w.heap.size + 1 + 1, 7, none⟩ (.int .i64 ((L : Int) - 1)) = W6
      have S6 : BdS w x (.slice an L cn) (.slice am M cm) W6 (coordsS x.metric) ((-100000000 : Int), (100000000 : Int)) (timesS x.kind) ((1 : Int), (L : Int) - 1) := by rw [← hW]; exact R.out
      clear hW R
      have r0 : W6.cell? ⟨w.heap.size + 1, 0, none⟩ = some (.int .i64 0) := S6.r 0
      have f0 : W6.frozen? ⟨w.heap.size + 1, 0, none⟩ = false := S6.fr 0
      have y0 : W6.cell? ⟨w.heap.size + 1 + 1, 0, none⟩ = some (.int .i64 (coordsS x.metric).1) := S6.y 0
      have r1 : W6.cell? ⟨w.heap.size + 1, 1, none⟩ = some (.int .i64 0) := S6.r 1
      have f1 : W6.frozen? ⟨w.heap.size + 1, 1, none⟩ = false := S6.fr 1
      have y1 : W6.cell? ⟨w.heap.size + 1 + 1, 1, none⟩ = some (.int .i64 (coordsS x.metric).2) := S6.y 1
      have r2 : W6.cell? ⟨w.heap.size + 1, 2, none⟩ = some (.int .i64 0) := S6.r 2
      have f2 : W6.frozen? ⟨w.heap.size + 1, 2, none⟩ = false := S6.fr 2
      have y2 : W6.cell? ⟨w.heap.size + 1 + 1, 2, none⟩ = some (.int .i64 ((-100000000 : Int), (100000000 : Int)).1) := S6.y 2
      have r3 : W6.cell? ⟨w.heap.size + 1, 3, none⟩ = some (.int .i64 0) := S6.r 3
      have f3 : W6.frozen? ⟨w.heap.size + 1, 3, none⟩ = false := S6.fr 3
      have y3 : W6.cell? ⟨w.heap.size + 1 + 1, 3, none⟩ = some (.int .i64 ((-100000000 : Int), (100000000 : Int)).2) := S6.y 3
      have r4 : W6.cell? ⟨w.heap.size + 1, 4, none⟩ = some (.int .i64 0) := S6.r 4
      have f4 : W6.frozen? ⟨w.heap.size + 1, 4, none⟩ = false := S6.fr 4
      have y4 : W6.cell? ⟨w.heap.size + 1 + 1, 4, none⟩ = some (.int .i64 (timesS x.kind).1) := S6.y 4
      have r5 : W6.cell? ⟨w.heap.size + 1, 5, none⟩ = some (.int .i64 0) := S6.r 5
      have f5 : W6.frozen? ⟨w.heap.size + 1, 5, none⟩ = false := S6.fr 5
      have y5 : W6.cell? ⟨w.heap.size + 1 + 1, 5, none⟩ = some (.int .i64 (timesS x.kind).2) := S6.y 5
      have r6 : W6.cell? ⟨w.heap.size + 1, 6, none⟩ = some (.int .i64 0) := S6.r 6
      have f6 : W6.frozen? ⟨w.heap.size + 1, 6, none⟩ = false := S6.fr 6
      have y6 : W6.cell? ⟨w.heap.size + 1 + 1, 6, none⟩ = some (.int .i64 ((1 : Int), (L : Int) - 1).1) := S6.y 6
      have r7 : W6.cell? ⟨w.heap.size + 1, 7, none⟩ = some (.int .i64 0) := S6.r 7
      have f7 : W6.frozen? ⟨w.heap.size + 1, 7, none⟩ = false := S6.fr 7
      have y7 : W6.cell? ⟨w.heap.size + 1 + 1, 7, none⟩ = some (.int .i64 ((1 : Int), (L : Int) - 1).2) := S6.y 7
      have HB := Lib.hid S6.below
      clear S6
      go_wp2
      refine bodyPost_ret (v := boundsV (coordsS x.metric) ((-100000000 : Int), (100000000 : Int)) (timesS x.kind) ((1 : Int), (L : Int) - 1)) (by simp [results, Try.results74, go_sem, boundsV, r0, r1, r2, r3, r4, r5, r6, r7]) rfl ⟨by rw [HE.out, HM.out], ?_⟩
      exact ((((((((HB.out.setCell (by show w.heap.size ≤ w.heap.size + 1; omega) _).setCell (by show w.heap.size ≤ w.heap.size + 1; omega) _).setCell (by show w.heap.size ≤ w.heap.size + 1; omega) _).setCell (by show w.heap.size ≤ w.heap.size + 1; omega) _).setCell (by show w.heap.size ≤ w.heap.size + 1; omega) _).setCell (by show w.heap.size ≤ w.heap.size + 1; omega) _).setCell (by show w.heap.size ≤ w.heap.size + 1; omega) _).setCell (by show w.heap.size ≤ w.heap.size + 1; omega) _)
    · have ed : demandsS x.kind i = ((0 : Int), (100000000 : Int)) := HD0.out.trans (if_neg h4)
      have em : matesS x.kind i L = (0, 0) := HM0.out.trans (if_neg h4)
      have HE := Lib.hid ed
      have HM := Lib.hid em
      have k4 : (x.kind == 4) = false := beq_eq_false_iff_ne.2 h4
      clear ed em h4 HD0 HM0
      have r0 : W3.cell? ⟨w.heap.size + 1, 0, none⟩ = some (.int .i64 0) := S3.r 0
      have f0 : W3.frozen? ⟨w.heap.size + 1, 0, none⟩ = false := S3.fr 0
      have y0 : W3.cell? ⟨w.heap.size + 1 + 1, 0, none⟩ = some (.int .i64 (coordsS x.metric).1) := S3.y 0
      have r1 : W3.cell? ⟨w.heap.size + 1, 1, none⟩ = some (.int .i64 0) := S3.r 1
      have f1 : W3.frozen? ⟨w.heap.size + 1, 1, none⟩ = false := S3.fr 1
      have y1 : W3.cell? ⟨w.heap.size + 1 + 1, 1, none⟩ = some (.int .i64 (coordsS x.metric).2) := S3.y 1
      have r2 : W3.cell? ⟨w.heap.size + 1, 2, none⟩ = some (.int .i64 0) := S3.r 2
      have f2 : W3.frozen? ⟨w.heap.size + 1, 2, none⟩ = false := S3.fr 2
      have y2 : W3.cell? ⟨w.heap.size + 1 + 1, 2, none⟩ = some (.int .i64 ((0 : Int), (100000000 : Int)).1) := S3.y 2
      have r3 : W3.cell? ⟨w.heap.size + 1, 3, none⟩ = some (.int .i64 0) := S3.r 3
      have f3 : W3.frozen? ⟨w.heap.size + 1, 3, none⟩ = false := S3.fr 3
      have y3 : W3.cell? ⟨w.heap.size + 1 + 1, 3, none⟩ = some (.int .i64 ((0 : Int), (100000000 : Int)).2) := S3.y 3
      have r4 : W3.cell? ⟨w.heap.size + 1, 4, none⟩ = some (.int .i64 0) := S3.r 4
      have f4 : W3.frozen? ⟨w.heap.size + 1, 4, none⟩ = false := S3.fr 4
      have y4 : W3.cell? ⟨w.heap.size + 1 + 1, 4, none⟩ = some (.int .i64 (timesS x.kind).1) := S3.y 4
      have r5 : W3.cell? ⟨w.heap.size + 1, 5, none⟩ = some (.int .i64 0) := S3.r 5
      have f5 : W3.frozen? ⟨w.heap.size + 1, 5, none⟩ = false := S3.fr 5
      have y5 : W3.cell? ⟨w.heap.size + 1 + 1, 5, none⟩ = some (.int .i64 (timesS x.kind).2) := S3.y 5
      have r6 : W3.cell? ⟨w.heap.size + 1, 6, none⟩ = some (.int .i64 0) := S3.r 6
      have f6 : W3.frozen? ⟨w.heap.size + 1, 6, none⟩ = false := S3.fr 6
      have y6 : W3.cell? ⟨w.heap.size + 1 + 1, 6, none⟩ = some (.int .i64 ((0 : Int), (0 : Int)).1) := S3.y 6
      have r7 : W3.cell? ⟨w.heap.size + 1, 7, none⟩ = some (.int .i64 0) := S3.r 7
      have f7 : W3.frozen? ⟨w.heap.size + 1, 7, none⟩ = false := S3.fr 7
      have y7 : W3.cell? ⟨w.heap.size + 1 + 1, 7, none⟩ = some (.int .i64 ((0 : Int), (0 : Int)).2) := S3.y 7
      have HB := Lib.hid S3.below
      clear S3
      go_wp2
      refine bodyPost_ret (v := boundsV (coordsS x.metric) ((0 : Int), (100000000 : Int)) (timesS x.kind) ((0 : Int), (0 : Int))) (by simp [results, Try.results74, go_sem, boundsV, r0, r1, r2, r3, r4, r5, r6, r7]) rfl ⟨by rw [HE.out, HM.out], ?_⟩
      exact ((((((((HB.out.setCell (by show w.heap.size ≤ w.heap.size + 1; omega) _).setCell (by show w.heap.size ≤ w.heap.size + 1; omega) _).setCell (by show w.heap.size ≤ w.heap.size + 1; omega) _).setCell (by show w.heap.size ≤ w.heap.size + 1; omega) _).setCell (by show w.heap.size ≤ w.heap.size + 1; omega) _).setCell (by show w.heap.size ≤ w.heap.size + 1; omega) _).setCell (by show w.heap.size ≤ w.heap.size + 1; omega) _).setCell (by show w.heap.size ≤ w.heap.size + 1; omega) _)
end Go.Proofs
