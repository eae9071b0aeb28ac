/- What the program asks of a node at its place: the methods of seat, but for the mate. Conditions: none. -/
import Derived.Test.YtogpnkahgkidpaaCanonSpan
import Derived.Test.YtogpnkahgkidpaaCanonMate
namespace Go.Proofs
open Go.RowKit Go.Shelf Go.Canon
attribute [local go_sem] Oper.semAt_some

/-- A span, a node, and a node at its place with what it may be, as values. -/
def spanV (s : Int × Int) : Value := .agg #[.int .i64 s.1, .int .i64 s.2]
def ndV (d : Nd) : Value := .agg #[.int .i64 d.x, .int .i64 d.y, .int .i64 d.demand, .int .i64 d.ready, .int .i64 d.due, .int .i64 d.service, .int .i64 d.mate]
def boundsV (c d t m : Int × Int) : Value := .agg #[.int .i64 c.1, .int .i64 c.2, .int .i64 d.1, .int .i64 d.2, .int .i64 t.1, .int .i64 t.2, .int .i64 m.1, .int .i64 m.2]
def seatV (n : Nd) (c d t m : Int × Int) (i : Nat) : Value := .agg #[.int .i64 n.x, .int .i64 n.y, .int .i64 n.demand, .int .i64 n.ready, .int .i64 n.due, .int .i64 n.service, .int .i64 n.mate, .int .i64 c.1, .int .i64 c.2, .int .i64 d.1, .int .i64 d.2, .int .i64 t.1, .int .i64 t.2, .int .i64 m.1, .int .i64 m.2, .int .i64 (i : Int)]
theorem Try.has_hid (s : Int × Int) : Hid (∀ (n : Int) (w : World), Calls Try.prog 25 #[.agg #[.int .i64 s.1, .int .i64 s.2], .int .i64 n] w fun e w' => e = .returned (.bool (has s n)) ∧ Below w.heap.size w w') := fun n w => Try.has_calls s n w
set_option maxRecDepth 100000 in
theorem Try.demandFits_calls (n : Nd) (c d t m : Int × Int) (i : Nat) (w : World) :
    Calls Try.prog 46 #[seatV n c d t m i] w fun e w' => e = .returned (.bool (has d n.demand)) ∧ Below w.heap.size w w' := by
  have H := Try.has_hid d
  unfold seatV
  go_enter Try.func46, Try.ntmps46
  go_wp2_with (go_at_call 25; (with_reducible refine (H.out _ _).mono ?_); rintro e w1 ⟨rfl, hb1⟩)
  go_ret
  exact ⟨rfl, (below_box _ _).trans (hb1.mono (below_box _ _).size)⟩
set_option maxRecDepth 100000 in
theorem Try.serviceFits_calls (n : Nd) (c d t m : Int × Int) (i : Nat) (w : World) :
    Calls Try.prog 48 #[seatV n c d t m i] w fun e w' => e = .returned (.bool (has t n.service)) ∧ Below w.heap.size w w' := by
  have H := Try.has_hid t
  unfold seatV
  go_enter Try.func48, Try.ntmps48
  go_wp2_with (go_at_call 25; (with_reducible refine (H.out _ _).mono ?_); rintro e w1 ⟨rfl, hb1⟩)
  go_ret
  exact ⟨rfl, (below_box _ _).trans (hb1.mono (below_box _ _).size)⟩
theorem box_at {w w1 : World} {cs : Array Value} {t : TypeId} (hb : Below (w.alloc (.cells cs t)).heap.size (w.alloc (.cells cs t)) w1) (j : Nat) {u : Value} (h : cs[j]? = some u) : w1.cell? ⟨w.heap.size, j, none⟩ = some u := by
  have e : (w.alloc (.cells cs t)).heap[w.heap.size]? = some (.cells cs t) := World.alloc_heap_new w _
  have e1 := (hb.block w.heap.size (by show _ < (w.heap.push _).size; simp)).trans e
  unfold World.cell?; rw [e1]; exact h
set_option maxRecDepth 100000 in
theorem Try.coordFits_calls (n : Nd) (c d t m : Int × Int) (i : Nat) (w : World) :
    Calls Try.prog 45 #[seatV n c d t m i] w fun e w' => e = .returned (.bool (has c n.x && has c n.y)) ∧ Below w.heap.size w w' := by
  have H := Try.has_hid c
  unfold seatV
  have H1 := Lib.hid (fun W => H.out n.x W)
  have H2 := Lib.hid (fun W => H.out n.y W)
  clear H
  generalize has c n.x = b1 at *
  generalize has c n.y = b2 at *
  cases b1 with
  | false =>
    go_enter Try.func45, Try.ntmps45
    go_wp2_with (go_at_call 25; (with_reducible refine (H1.out _).mono ?_); rintro e w1 ⟨rfl, hb1⟩)
    go_ret
    exact ⟨rfl, (below_box _ _).trans (hb1.mono (below_box _ _).size)⟩
  | true =>
    go_enter Try.func45, Try.ntmps45
    go_wp2_with (fail)
    refine (H1.out _).mono ?_
    rintro e w1 ⟨rfl, hb1⟩
    have y1 := box_at hb1 1 rfl
    have y7 := box_at hb1 7 rfl
    have y8 := box_at hb1 8 rfl
    have hB := (below_box _ _).trans (hb1.mono (below_box _ _).size)
    clear hb1
    go_wp2_with (go_at_call 25; (with_reducible refine (H2.out _).mono ?_); rintro e w2 ⟨rfl, hb2⟩)
    go_ret
    exact ⟨rfl, hB.trans (hb2.mono hB.size)⟩
set_option maxRecDepth 100000 in
theorem Try.windowFits_calls (n : Nd) (c d t m : Int × Int) (i : Nat) (w : World) :
    Calls Try.prog 47 #[seatV n c d t m i] w fun e w' => e = .returned (.bool (has t n.ready && has t n.due && decide (n.ready ≤ n.due))) ∧ Below w.heap.size w w' := by
  have H := Try.has_hid t
  unfold seatV
  have H1 := Lib.hid (fun W => H.out n.ready W)
  have H2 := Lib.hid (fun W => H.out n.due W)
  clear H
  generalize has t n.ready = b1 at *
  generalize has t n.due = b2 at *
  cases b1 with
  | false =>
    go_enter Try.func47, Try.ntmps47
    go_wp2_with (go_at_call 25; (with_reducible refine (H1.out _).mono ?_); rintro e w1 ⟨rfl, hb1⟩)
    go_ret
    exact ⟨rfl, (below_box _ _).trans (hb1.mono (below_box _ _).size)⟩
  | true =>
    go_enter Try.func47, Try.ntmps47
    go_wp2_with (fail)
    refine (H1.out _).mono ?_
    rintro e w1 ⟨rfl, hb1⟩
    have y3 := box_at hb1 3 rfl
    have y4 := box_at hb1 4 rfl
    have y11 := box_at hb1 11 rfl
    have y12 := box_at hb1 12 rfl
    have hB := (below_box _ _).trans (hb1.mono (below_box _ _).size)
    have hlt : w.heap.size < w1.heap.size := Nat.lt_of_lt_of_le (by show _ < (w.heap.push _).size; simp) hb1.size
    clear hb1
    go_wp2_with (fail)
    refine (H2.out _).mono ?_
    rintro e w2 ⟨rfl, hb2⟩
    have z3 := (hb2.cell (p := ⟨w.heap.size, 3, none⟩) hlt).trans y3
    have z4 := (hb2.cell (p := ⟨w.heap.size, 4, none⟩) hlt).trans y4
    have hB2 := hB.trans (hb2.mono hB.size)
    clear hb2 y3 y4 y11 y12 hB
    cases b2 with
    | false =>
      go_wp2
      go_ret
      exact ⟨rfl, hB2⟩
    | true =>
      go_wp2
      go_ret
      exact ⟨by simp, hB2⟩
set_option maxRecDepth 100000 in
set_option maxHeartbeats 1000000 in
theorem Try.mateFits_calls (x : Ins) (vn vm : Value) (i : Nat) (c d t : Int × Int) (w : World) (hx : HasIns w vn vm x) (hi : i < x.nodes.length) (hn : x.nodes.length ≤ 400) :
    Calls Try.prog 49 #[seatV (at' x i) c d t (matesS x.kind i x.nodes.length) i, vn] w fun e w' => e = .returned (.bool (mateB x i)) ∧ Below w.heap.size w w' := by
  obtain ⟨b, off, cap, rfl, hlc, hcm, hb, hd⟩ := hx.two hi
  unfold mateB
  by_cases hk : x.kind ≠ 4 ∨ i = 0
  · have em : matesS x.kind i x.nodes.length = (0, 0) := by unfold matesS; rw [if_pos hk]
    rw [em, if_pos hk]
    have H := Lib.hid (fun W => (Try.has_hid (0, 0)).out (at' x i).mate W)
    unfold seatV
    clear hx hd hk em
    have eh : has (0, 0) (at' x i).mate = decide ((at' x i).mate = 0) := by unfold has; rw [Bool.eq_iff_iff]; simp; omega
    rw [eh] at H
    clear eh
    generalize (at' x i).mate = s at *
    by_cases h0 : s = 0
    · subst h0
      rw [show decide ((0 : Int) = 0) = true from rfl] at *
      go_enter Try.func49, Try.ntmps49
      go_wp2_with (fail)
      refine (H.out _).mono ?_
      rintro e w1 ⟨rfl, hb1⟩
      have y6 := box_at hb1 6 rfl
      have hB := (below_box _ _).trans (hb1.mono (below_box _ _).size)
      clear hb1
      go_wp2
      go_ret
      exact ⟨rfl, hB⟩
    · rw [show decide (s = 0) = false from decide_eq_false h0] at *
      clear h0
      go_enter Try.func49, Try.ntmps49
      go_wp2_with (go_at_call 25; (with_reducible refine (H.out _).mono ?_); rintro e w1 ⟨rfl, hb1⟩)
      go_ret
      exact ⟨rfl, (below_box _ _).trans (hb1.mono (below_box _ _).size)⟩
  · have em : matesS x.kind i x.nodes.length = (1, (x.nodes.length : Int) - 1) := by unfold matesS; rw [if_neg hk]
    rw [em, if_neg hk]
    have H := Lib.hid (fun W => (Try.has_hid (1, (x.nodes.length : Int) - 1)).out (at' x i).mate W)
    unfold seatV
    have D1 := fun j hj => (hd j hj).demand
    have d1 := fun j hj => (hd j hj).mate
    have X1 := fun j hj => (hd j hj).x
    have X2 := fun j hj => (hd j hj).y
    have X3 := fun j hj => (hd j hj).ready
    have X4 := fun j hj => (hd j hj).due
    have X5 := fun j hj => (hd j hj).service
    clear hx hd em hk
    generalize x.nodes.length = L at *
    generalize hs : (at' x i).mate = s at H ⊢
    generalize (at' x i).demand = di at *
    by_cases h1 : s < 1 ∨ (L : Int) ≤ s
    · have eh : has (1, (L : Int) - 1) s = false := by unfold has; rw [Bool.eq_false_iff]; simp; omega
      rw [if_pos (by omega)]
      rw [eh] at H
      clear eh D1 d1 X1 X2 X3 X4 X5 hs h1
      go_enter Try.func49, Try.ntmps49
      go_wp2_with (go_at_call 25; (with_reducible refine (H.out _).mono ?_); rintro e w1 ⟨rfl, hb1⟩)
      go_ret
      exact ⟨rfl, (below_box _ _).trans (hb1.mono (below_box _ _).size)⟩
    · have eh : has (1, (L : Int) - 1) s = true := by unfold has; simp; omega
      rw [eh] at H
      obtain ⟨m, rfl⟩ : ∃ m : Nat, s = (m : Int) := ⟨s.toNat, by omega⟩
      have hm : m < L := by omega
      have hm0 : ((m : Int) == 0) = false := beq_eq_false_iff_ne.2 (by omega)
      have mm : (m : Int) < (L : Int) := by omega
      simp only [Int.toNat_natCast]
      have x0 := X1 m hm
      have x1 := X2 m hm
      have x2 := D1 m hm
      have x3 := X3 m hm
      have x4 := X4 m hm
      have x5 := X5 m hm
      have x6 := d1 m hm
      have hres : (if (m : Int) < 1 ∨ (L : Int) ≤ (m : Int) ∨ (m : Int) = (i : Int) ∨ (at' x m).mate ≠ (i : Int) then false else decide (di ≠ 0) && decide ((at' x m).demand = neg64 di)) = ((m : Int) != (i : Int) && ((at' x m).mate == (i : Int)) && ((at' x m).demand == neg64 di) && (di != 0)) := by
        by_cases h3 : (m : Int) = (i : Int)
        · rw [if_pos (by omega)]; simp [h3]
        · by_cases h4 : (at' x m).mate = (i : Int)
          · rw [if_neg (by omega), Bool.eq_iff_iff]; simp [h4]; omega
          · rw [if_pos (by omega)]; simp [h4]
      rw [hres, ← wrap_neg]
      clear eh D1 d1 X1 X2 X3 X4 X5 hs h1 hres hi
      have HL := Lib.hid hn
      have HC := Lib.hid hlc
      clear hn hlc
      generalize (at' x m).mate = tm at *
      generalize (at' x m).demand = td at *
      go_enter Try.func49, Try.ntmps49
      go_wp2_with (fail)
      refine (H.out _).mono ?_
      rintro e w1 ⟨rfl, hb1⟩
      have y6 := box_at hb1 6 rfl
      have y2 := box_at hb1 2 rfl
      have y15 := box_at hb1 15 rfl
      have hB := (below_box _ _).trans (hb1.mono (below_box _ _).size)
      have k0 := (hB.cell (p := ⟨b, off + m * 7, none⟩) hb).trans x0
      have k1 := (hB.cell (p := ⟨b, off + m * 7 + 1, none⟩) hb).trans x1
      have k2 := (hB.cell (p := ⟨b, off + m * 7 + 2, none⟩) hb).trans x2
      have k3 := (hB.cell (p := ⟨b, off + m * 7 + 3, none⟩) hb).trans x3
      have k4 := (hB.cell (p := ⟨b, off + m * 7 + 4, none⟩) hb).trans x4
      have k5 := (hB.cell (p := ⟨b, off + m * 7 + 5, none⟩) hb).trans x5
      have k6 := (hB.cell (p := ⟨b, off + m * 7 + 6, none⟩) hb).trans x6
      have hlt : w.heap.size < w1.heap.size := Nat.lt_of_lt_of_le (by show _ < (w.heap.push _).size; simp) hb1.size
      have z6 : ∀ o, (w1.alloc o).cell? ⟨w.heap.size, 6, none⟩ = some (.int .i64 (m : Int)) := fun o => ((below_box w1 o).cell (p := ⟨w.heap.size, 6, none⟩) hlt).trans y6
      have z2 : ∀ o, (w1.alloc o).cell? ⟨w.heap.size, 2, none⟩ = some (.int .i64 di) := fun o => ((below_box w1 o).cell (p := ⟨w.heap.size, 2, none⟩) hlt).trans y2
      have z15 : ∀ o, (w1.alloc o).cell? ⟨w.heap.size, 15, none⟩ = some (.int .i64 (i : Int)) := fun o => ((below_box w1 o).cell (p := ⟨w.heap.size, 15, none⟩) hlt).trans y15
      clear hb1 x0 x1 x2 x3 x4 x5 x6 H
      cases h3 : ((m : Int) != (i : Int)) with
      | false =>
        go_wp2
        go_ret
        exact ⟨cret_is (by rw [h3]; simp), hB.alloc hB.size _⟩
      | true =>
        cases h4 : (tm == (i : Int)) with
        | false =>
          go_wp2
          go_ret
          exact ⟨cret_is (by rw [h3, h4]; simp), hB.alloc hB.size _⟩
        | true =>
          cases h5 : (td == wrap64 (-di)) with
          | false =>
            go_wp2
            go_ret
            exact ⟨cret_is (by rw [h3, h4, h5]; simp), hB.alloc hB.size _⟩
          | true =>
            go_wp2
            go_ret
            exact ⟨cret_is (by rw [h3, h4, h5]; simp), hB.alloc hB.size _⟩
end Go.Proofs
