/- What is looked at of a node: checkNode. Conditions: 400 nodes at most; fewer than a million faults so far. -/
import Derived.Test.YtebkmcafahkdbaaG12
import Derived.Test.YtebkmcafahkdbaaG13
import Derived.Deep.MidRow
namespace Go.Proofs
open Go.RowKit Go.Shelf Go.Canon
attribute [local go_sem] Oper.semAt_some
attribute [local go_sem ↓] Go.wp_at_zero Go.wp_at_succ

/-- What stands while checkNode makes its seat: the instance in its box, the node, and the memory below. -/
structure NodH (w : World) (x : Ins) (vn vm : Value) (b off i : Nat) (W : World) : Prop where
  pb : W.heap[w.heap.size]? = some (.cells #[.string x.name, .int .i64 x.kind, .int .i64 x.metric, .int .i64 x.scale, .int .i64 x.cap, .int .i64 x.fleet, vn, vm] 25)
  nd : NdAt W b (off + i * 7) (at' x i)
  lt : b < w.heap.size
  below : Below w.heap.size w W
theorem NodH.next {w W W' : World} {x : Ins} {vn vm : Value} {b off i : Nat} (h : NodH w x vn vm b off i W) (hb : Below W.heap.size W W') : NodH w x vn vm b off i W' :=
  ⟨(hb.block _ (Array.getElem?_eq_some_iff.1 h.pb).1).trans h.pb, h.nd.below (hb.mono h.below.size) h.lt, h.lt, h.below.trans (hb.mono h.below.size)⟩
theorem NodH.drew {w W : World} {x : Ins} {vn vm : Value} {b off i : Nat} (h : NodH w x vn vm b off i W) : NodH w x vn vm b off i W.drew := h.next (bw_drew (Below.refl _ _))
theorem NodH.all {w W : World} {x : Ins} {vn vm : Value} {b off i : Nat} (h : NodH w x vn vm b off i W) : W.cell? ⟨w.heap.size, 0, none⟩ = some (.string x.name) ∧ W.cell? ⟨w.heap.size, 1, none⟩ = some (.int .i64 x.kind) ∧ W.cell? ⟨w.heap.size, 2, none⟩ = some (.int .i64 x.metric) ∧ W.cell? ⟨w.heap.size, 3, none⟩ = some (.int .i64 x.scale) ∧ W.cell? ⟨w.heap.size, 4, none⟩ = some (.int .i64 x.cap) ∧ W.cell? ⟨w.heap.size, 5, none⟩ = some (.int .i64 x.fleet) ∧ W.cell? ⟨w.heap.size, 6, none⟩ = some (vn) ∧ W.cell? ⟨w.heap.size, 7, none⟩ = some (vm) ∧ W.cell? ⟨b, off + i * 7, none⟩ = some (.int .i64 (at' x i).x) ∧ W.cell? ⟨b, off + i * 7 + 1, none⟩ = some (.int .i64 (at' x i).y) ∧ W.cell? ⟨b, off + i * 7 + 2, none⟩ = some (.int .i64 (at' x i).demand) ∧ W.cell? ⟨b, off + i * 7 + 3, none⟩ = some (.int .i64 (at' x i).ready) ∧ W.cell? ⟨b, off + i * 7 + 4, none⟩ = some (.int .i64 (at' x i).due) ∧ W.cell? ⟨b, off + i * 7 + 5, none⟩ = some (.int .i64 (at' x i).service) ∧ W.cell? ⟨b, off + i * 7 + 6, none⟩ = some (.int .i64 (at' x i).mate) ∧ NodH w x vn vm b off i W := by
  have hc : ∀ j, W.cell? ⟨w.heap.size, j, none⟩ = (#[.string x.name, .int .i64 x.kind, .int .i64 x.metric, .int .i64 x.scale, .int .i64 x.cap, .int .i64 x.fleet, vn, vm] : Array Value)[j]? := fun j => by unfold World.cell?; rw [h.pb]; rfl
  exact ⟨hc 0, hc 1, hc 2, hc 3, hc 4, hc 5, hc 6, hc 7, h.nd.x, h.nd.y, h.nd.demand, h.nd.ready, h.nd.due, h.nd.service, h.nd.mate, h⟩
theorem NodH.setc {w W : World} {x : Ins} {vn vm : Value} {b off i : Nat} (h : NodH w x vn vm b off i W) {sb : Nat} (hs : w.heap.size < sb) (j : Nat) (u : Value) : NodH w x vn vm b off i (W.setCell ⟨sb, j, none⟩ u) :=
  ⟨(Below.heap_setCell _ _ _ _ (by show w.heap.size ≠ sb; omega)).trans h.pb, h.nd.below ((Below.refl w.heap.size W).setCell (by show w.heap.size ≤ sb; omega) u) h.lt, h.lt, h.below.setCell (by show w.heap.size ≤ sb; omega) u⟩
def seatC (x : Ins) (i L : Nat) : Array Value := #[.int .i64 (at' x i).x, .int .i64 (at' x i).y, .int .i64 (at' x i).demand, .int .i64 (at' x i).ready, .int .i64 (at' x i).due, .int .i64 (at' x i).service, .int .i64 (at' x i).mate, .int .i64 (coordsS x.metric).1, .int .i64 (coordsS x.metric).2, .int .i64 (demandsS x.kind i).1, .int .i64 (demandsS x.kind i).2, .int .i64 (timesS x.kind).1, .int .i64 (timesS x.kind).2, .int .i64 (matesS x.kind i L).1, .int .i64 (matesS x.kind i L).2, .int .i64 (i : Int)]
/-- What stands in the middle of checkNode. -/
structure NodS (w : World) (bx : Nat) (x : Ins) (vn vm : Value) (i L : Nat) (W : World) (sb : Nat) (v : Value) (l : List (Nat × Nat)) : Prop where
  pb : W.heap[w.heap.size]? = some (.cells #[.string x.name, .int .i64 x.kind, .int .i64 x.metric, .int .i64 x.scale, .int .i64 x.cap, .int .i64 x.fleet, vn, vm] 25)
  sq : W.heap[sb]? = some (.cells (seatC x i L) 81)
  tell : TellS bx W v l
  told : Told bx w W
theorem NodS.step {w W W' : World} {bx sb i L : Nat} {x : Ins} {vn vm v v' : Value} {l l' : List (Nat × Nat)} (h : NodS w bx x vn vm i L W sb v l) (h1 : TellS bx W' v' l') (h2 : Told bx W W') : NodS w bx x vn vm i L W' sb v' l' :=
  ⟨h2.keep _ _ _ h.pb (by decide) (by decide), h2.keep _ _ _ h.sq (by decide) (by decide), h1, h.told.trans h2⟩
theorem NodS.next {w W W' : World} {bx sb i L : Nat} {x : Ins} {vn vm v : Value} {l : List (Nat × Nat)} (h : NodS w bx x vn vm i L W sb v l) (hb : Below W.heap.size W W') : NodS w bx x vn vm i L W' sb v l :=
  h.step (h.tell.next hb) (Told.of hb (by have := h.tell.sz; omega))
theorem NodS.q {w W : World} {bx sb i L : Nat} {x : Ins} {vn vm v : Value} {l : List (Nat × Nat)} (h : NodS w bx x vn vm i L W sb v l) (j : Nat) : W.cell? ⟨sb, j, none⟩ = (seatC x i L)[j]? := by
  unfold World.cell?; rw [h.sq]; rfl
theorem NodS.range {w W : World} {bx sb i L : Nat} {x : Ins} {vn vm v : Value} {l : List (Nat × Nat)} (h : NodS w bx x vn vm i L W sb v l) : W.rangeAt sb 0 [.int .i64 (at' x i).x, .int .i64 (at' x i).y, .int .i64 (at' x i).demand, .int .i64 (at' x i).ready, .int .i64 (at' x i).due, .int .i64 (at' x i).service, .int .i64 (at' x i).mate, .int .i64 (coordsS x.metric).1, .int .i64 (coordsS x.metric).2, .int .i64 (demandsS x.kind i).1, .int .i64 (demandsS x.kind i).2, .int .i64 (timesS x.kind).1, .int .i64 (timesS x.kind).2, .int .i64 (matesS x.kind i L).1, .int .i64 (matesS x.kind i L).2, .int .i64 (i : Int)] :=
  fun j v hv => by rw [Nat.zero_add, h.q j, ← hv]; simp [seatC]
theorem Try.size70 : (Try.prog.info? 81).map (·.size) = some 16 := by kernel_rfl
theorem NodS.p {w W : World} {bx sb i L : Nat} {x : Ins} {vn vm v : Value} {l : List (Nat × Nat)} (h : NodS w bx x vn vm i L W sb v l) (j : Nat) : W.cell? ⟨w.heap.size, j, none⟩ = (#[.string x.name, .int .i64 x.kind, .int .i64 x.metric, .int .i64 x.scale, .int .i64 x.cap, .int .i64 x.fleet, vn, vm] : Array Value)[j]? := by
  unfold World.cell?; rw [h.pb]; rfl
theorem set16 {W : World} {sb : Nat} {u0 u1 u2 u3 u4 u5 u6 u7 u8 u9 u10 u11 u12 u13 u14 u15 : Value} (h : W.heap[sb]? = some (.cells #[.int .i64 0, .int .i64 0, .int .i64 0, .int .i64 0, .int .i64 0, .int .i64 0, .int .i64 0, .int .i64 0, .int .i64 0, .int .i64 0, .int .i64 0, .int .i64 0, .int .i64 0, .int .i64 0, .int .i64 0, .int .i64 0] 81)) : ((((((((((((((((W.setCell ⟨sb, 0, none⟩ u0).setCell ⟨sb, 1, none⟩ u1).setCell ⟨sb, 2, none⟩ u2).setCell ⟨sb, 3, none⟩ u3).setCell ⟨sb, 4, none⟩ u4).setCell ⟨sb, 5, none⟩ u5).setCell ⟨sb, 6, none⟩ u6).setCell ⟨sb, 7, none⟩ u7).setCell ⟨sb, 8, none⟩ u8).setCell ⟨sb, 9, none⟩ u9).setCell ⟨sb, 10, none⟩ u10).setCell ⟨sb, 11, none⟩ u11).setCell ⟨sb, 12, none⟩ u12).setCell ⟨sb, 13, none⟩ u13).setCell ⟨sb, 14, none⟩ u14).setCell ⟨sb, 15, none⟩ u15).heap[sb]? = some (.cells #[u0, u1, u2, u3, u4, u5, u6, u7, u8, u9, u10, u11, u12, u13, u14, u15] 81) := by
  simp [World.setCell, Array.getElem?_modify, h]
set_option maxRecDepth 100000 in
set_option maxHeartbeats 4000000 in
theorem Try.checkNode_calls (bx : Nat) (x : Ins) (vn vm v : Value) (i : Nat) (l : List (Nat × Nat)) (w : World) (hx : HasIns w vn vm x) (hi : i < x.nodes.length) (hn : x.nodes.length ≤ 400) (hbx : ∀ b off cap n, vn = .slice (some ⟨b, off, none⟩) n cap → b < bx) (ht : TellS bx w v l) (hl : l.length ≤ 100000) :
    Calls Try.prog 68 #[insV x vn vm, .int .i64 (i : Int), tellV bx] w fun e w' => e = .returned (.tuple #[]) ∧ ∃ v', TellS bx w' v' (l ++ nodeF x i) ∧ Told bx w w' := by
  obtain ⟨b, off, cap, rfl, hb, hd⟩ := hx.node hi
  have HB := Lib.hid (hbx _ _ _ _ rfl)
  obtain ⟨am, cm, rfl, _⟩ := hx.matrix.dat
  have HX := Lib.hid hx
  have B44 := Lib.hid (fun W h => Try.boundsOf_calls x (.slice (some ⟨b, off, none⟩) x.nodes.length cap) (.slice am x.matrix.length cm) i W h (by omega))
  have N0 : NodH w x (.slice (some ⟨b, off, none⟩) x.nodes.length cap) (.slice am x.matrix.length cm) b off i (w.alloc (.cells #[.string x.name, .int .i64 x.kind, .int .i64 x.metric, .int .i64 x.scale, .int .i64 x.cap, .int .i64 x.fleet, .slice (some ⟨b, off, none⟩) x.nodes.length cap, .slice am x.matrix.length cm] 25)) :=
    ⟨World.alloc_heap_new w _, hd.below (below_box _ _) hb, hb, below_box _ _⟩
  have HT := Lib.hid ht
  have HL := Lib.hid hl
  have ii : (i : Int) < (x.nodes.length : Int) := by omega
  have HTC := Lib.hid (fun f n b v l W => Try.tell_calls bx f n b v l W)
  have hcd := coord_has x.metric (at' x i)
  have hdm := demand_has x.kind i (at' x i)
  have hwn := window_has x.kind (at' x i)
  have hsv := service_has x.kind (at' x i)
  have F9 := Lib.hid (fun W => Try.coordFits_calls (at' x i) (coordsS x.metric) (demandsS x.kind i) (timesS x.kind) (matesS x.kind i x.nodes.length) i W)
  have F10 := Lib.hid (fun W => Try.demandFits_calls (at' x i) (coordsS x.metric) (demandsS x.kind i) (timesS x.kind) (matesS x.kind i x.nodes.length) i W)
  have F11 := Lib.hid (fun W => Try.windowFits_calls (at' x i) (coordsS x.metric) (demandsS x.kind i) (timesS x.kind) (matesS x.kind i x.nodes.length) i W)
  have F12 := Lib.hid (fun W => Try.serviceFits_calls (at' x i) (coordsS x.metric) (demandsS x.kind i) (timesS x.kind) (matesS x.kind i x.nodes.length) i W)
  have F13 : Hid (∀ (W : World), bx + 1 ≤ W.heap.size → Below bx w W → Calls Try.prog 79 #[seatV (at' x i) (coordsS x.metric) (demandsS x.kind i) (timesS x.kind) (matesS x.kind i x.nodes.length) i, .slice (some ⟨b, off, none⟩) x.nodes.length cap] W fun e w' => e = .returned (.bool (mateB x i)) ∧ Below W.heap.size W w') := fun W _ hW => by
    rcases hx.nodes with ⟨h0, _⟩ | ⟨b', off', cap', e', h1, h2, h3⟩
    · rw [h0] at hi; cases hi
    · injection e' with e1 e2 e3
      injection e1 with e1
      injection e1 with e1 e4 e5
      subst e1 e4 e3
      exact Try.mateFits_calls { x with matrix := [] } _ (.slice none 0 0) i _ _ _ W ⟨.inr ⟨_, _, _, rfl, h1, h2, h3.below hW HB.out⟩, .inl ⟨rfl, _, _, rfl⟩⟩ hi hn
  rw [hcd] at F9
  rw [hdm] at F10
  rw [hwn] at F11
  rw [hsv] at F12
  clear hcd hdm hwn hsv
  have HE : Hid (l ++ nodeF x i = l ++ says (coordB x.metric (at' x i)) 9 i ++ says (demandB x.kind i (at' x i)) 10 i ++ says (windowB x.kind (at' x i)) 11 i ++ says (serviceB x.kind (at' x i)) 12 i ++ says (mateB x i) 13 i) := by
    unfold Hid nodeF
    simp only [List.append_assoc]
  generalize coordB x.metric (at' x i) = b9 at *
  generalize demandB x.kind i (at' x i) = b10 at *
  generalize windowB x.kind (at' x i) = b11 at *
  generalize serviceB x.kind (at' x i) = b12 at *
  generalize mateB x i = b13 at *
  unfold insV tellV boundsV seatV at *
  clear hx hbx ht hl hd
  generalize x.nodes.length = L at *
  generalize x.matrix.length = M at *
  go_enter Try.func68, Try.ntmps68
  go_upto_region 1 with (fail)
  go_cut [6] from 7 to 16 (fun s6 wx => ∃ sb, s6 = .pointer (some ⟨sb, 0, none⟩) ∧ NodS w bx x (.slice (some ⟨b, off, none⟩) L cap) (.slice am M cm) i L wx sb v l)
  case first =>
    refine wp_region_held_drew (S := fun W => W.cell? ⟨w.heap.size, 0, none⟩ = some (.string x.name) ∧ W.cell? ⟨w.heap.size, 1, none⟩ = some (.int .i64 x.kind) ∧ W.cell? ⟨w.heap.size, 2, none⟩ = some (.int .i64 x.metric) ∧ W.cell? ⟨w.heap.size, 3, none⟩ = some (.int .i64 x.scale) ∧ W.cell? ⟨w.heap.size, 4, none⟩ = some (.int .i64 x.cap) ∧ W.cell? ⟨w.heap.size, 5, none⟩ = some (.int .i64 x.fleet) ∧ W.cell? ⟨w.heap.size, 6, none⟩ = some (.slice (some ⟨b, off, none⟩) L cap) ∧ W.cell? ⟨w.heap.size, 7, none⟩ = some (.slice am M cm) ∧ W.cell? ⟨b, off + i * 7, none⟩ = some (.int .i64 (at' x i).x) ∧ W.cell? ⟨b, off + i * 7 + 1, none⟩ = some (.int .i64 (at' x i).y) ∧ W.cell? ⟨b, off + i * 7 + 2, none⟩ = some (.int .i64 (at' x i).demand) ∧ W.cell? ⟨b, off + i * 7 + 3, none⟩ = some (.int .i64 (at' x i).ready) ∧ W.cell? ⟨b, off + i * 7 + 4, none⟩ = some (.int .i64 (at' x i).due) ∧ W.cell? ⟨b, off + i * 7 + 5, none⟩ = some (.int .i64 (at' x i).service) ∧ W.cell? ⟨b, off + i * 7 + 6, none⟩ = some (.int .i64 (at' x i).mate) ∧ NodH w x (.slice (some ⟨b, off, none⟩) L cap) (.slice am M cm) b off i W) (by kernel_rfl) (NodH.all (NodH.drew N0)) (fun hHeld0 => ?_)
    have N0d := NodH.drew N0
    clear N0
    generalize (w.alloc (.cells #[.string x.name, .int .i64 x.kind, .int .i64 x.metric, .int .i64 x.scale, .int .i64 x.cap, .int .i64 x.fleet, .slice (some ⟨b, off, none⟩) L cap, .slice am M cm] 25)).drew = W0 at *
    refine wpAnyH_take (i := 0) (v := ?_) rfl (by kernel_rfl) (by kernel_rfl) (by kernel_rfl) (fun _ _ _ h => h) (Or.inl ⟨by kernel_rfl, ?_⟩) (by assumption) ?_
    rotate_left
    · (intro w0 hSw; (try dsimp only at hSw); obtain ⟨c0, c1, c2, c3, c4, c5, c6, c7, d0, d1, d2, d3, d4, d5, d6, hH⟩ := hSw; go_simp; try with_reducible rfl)
    try dsimp only [List.getElem_toArray, List.getElem_cons_succ, List.getElem_cons_zero, Act.put]
    simp only [List.setIfInBounds_toArray, List.set_cons_zero, List.set_cons_succ]
    refine wpAnyH_take (i := 1) (v := ?_) rfl (by kernel_rfl) (by kernel_rfl) (by kernel_rfl) (fun _ _ _ h => h) (Or.inl ⟨by kernel_rfl, ?_⟩) (by assumption) ?_
    rotate_left
    · (intro w0 hSw; (try dsimp only at hSw); obtain ⟨c0, c1, c2, c3, c4, c5, c6, c7, d0, d1, d2, d3, d4, d5, d6, hH⟩ := hSw; go_simp; try with_reducible rfl)
    try dsimp only [List.getElem_toArray, List.getElem_cons_succ, List.getElem_cons_zero, Act.put]
    simp only [List.setIfInBounds_toArray, List.set_cons_zero, List.set_cons_succ]
    refine wpAnyH_take (i := 2) (v := ?_) rfl (by kernel_rfl) (by kernel_rfl) (by kernel_rfl) (fun _ _ _ h => h) (Or.inl ⟨by kernel_rfl, ?_⟩) (by assumption) ?_
    rotate_left
    · (intro w0 hSw; (try dsimp only at hSw); obtain ⟨c0, c1, c2, c3, c4, c5, c6, c7, d0, d1, d2, d3, d4, d5, d6, hH⟩ := hSw; go_simp; try with_reducible rfl)
    try dsimp only [List.getElem_toArray, List.getElem_cons_succ, List.getElem_cons_zero, Act.put]
    simp only [List.setIfInBounds_toArray, List.set_cons_zero, List.set_cons_succ]
    refine wpAnyH_take (i := 3) (v := ?_) rfl (by kernel_rfl) (by kernel_rfl) (by kernel_rfl) (fun _ _ _ h => h) (Or.inl ⟨by kernel_rfl, ?_⟩) (by assumption) ?_
    rotate_left
    · (intro w0 hSw; (try dsimp only at hSw); obtain ⟨c0, c1, c2, c3, c4, c5, c6, c7, d0, d1, d2, d3, d4, d5, d6, hH⟩ := hSw; go_simp; try with_reducible rfl)
    try dsimp only [List.getElem_toArray, List.getElem_cons_succ, List.getElem_cons_zero, Act.put]
    simp only [List.setIfInBounds_toArray, List.set_cons_zero, List.set_cons_succ]
    refine wpAnyH_take (i := 4) (v := ?_) rfl (by kernel_rfl) (by kernel_rfl) (by kernel_rfl) (fun _ _ _ h => h) (Or.inl ⟨by kernel_rfl, ?_⟩) (by assumption) ?_
    rotate_left
    · (intro w0 hSw; (try dsimp only at hSw); obtain ⟨c0, c1, c2, c3, c4, c5, c6, c7, d0, d1, d2, d3, d4, d5, d6, hH⟩ := hSw; go_simp; try with_reducible rfl)
    try dsimp only [List.getElem_toArray, List.getElem_cons_succ, List.getElem_cons_zero, Act.put]
    simp only [List.setIfInBounds_toArray, List.set_cons_zero, List.set_cons_succ]
    refine wpAnyH_take (i := 5) (v := ?_) rfl (by kernel_rfl) (by kernel_rfl) (by kernel_rfl) (fun _ _ _ h => h) (Or.inl ⟨by kernel_rfl, ?_⟩) (by assumption) ?_
    rotate_left
    · (intro w0 hSw; (try dsimp only at hSw); obtain ⟨c0, c1, c2, c3, c4, c5, c6, c7, d0, d1, d2, d3, d4, d5, d6, hH⟩ := hSw; go_simp; try with_reducible rfl)
    try dsimp only [List.getElem_toArray, List.getElem_cons_succ, List.getElem_cons_zero, Act.put]
    simp only [List.setIfInBounds_toArray, List.set_cons_zero, List.set_cons_succ]
    refine wpAnyH_take (i := 6) (v := ?_) rfl (by kernel_rfl) (by kernel_rfl) (by kernel_rfl) (fun _ _ _ h => h) (Or.inl ⟨by kernel_rfl, ?_⟩) (by assumption) ?_
    rotate_left
    · (intro w0 hSw; (try dsimp only at hSw); obtain ⟨c0, c1, c2, c3, c4, c5, c6, c7, d0, d1, d2, d3, d4, d5, d6, hH⟩ := hSw; go_simp; try with_reducible rfl)
    try dsimp only [List.getElem_toArray, List.getElem_cons_succ, List.getElem_cons_zero, Act.put]
    simp only [List.setIfInBounds_toArray, List.set_cons_zero, List.set_cons_succ]
    refine wpAnyH_take (i := 8) (v := ?_) rfl (by kernel_rfl) (by kernel_rfl) (by kernel_rfl) (fun _ _ _ h => h) (Or.inl ⟨by kernel_rfl, ?_⟩) (by assumption) ?_
    rotate_left
    · (intro w0 hSw; (try dsimp only at hSw); obtain ⟨c0, c1, c2, c3, c4, c5, c6, c7, d0, d1, d2, d3, d4, d5, d6, hH⟩ := hSw; go_simp; try with_reducible rfl)
    try dsimp only [List.getElem_toArray, List.getElem_cons_succ, List.getElem_cons_zero, Act.put]
    simp only [List.setIfInBounds_toArray, List.set_cons_zero, List.set_cons_succ]
    refine wpAnyH_ready (rs := [7, 10]) (by kernel_rfl) (by simp) (AllReadyH.cons rfl (fun K hK => ?_) (AllReadyH.cons rfl (fun K hK => ?_) AllReadyH.nil))
    · go_simp
      go_at_call 74
      (with_reducible refine (B44.out _ (HX.out.next N0d.below)).mono ?_)
      rintro e w1 ⟨rfl, hb1⟩
      have N1 := N0d.next hb1
      refine hK.out _ _ (NodH.all N1) (fun hHeld1 => ?_)
      clear hK K
      try dsimp only [List.getElem_toArray, List.getElem_cons_succ, List.getElem_cons_zero, Act.put]
      try simp only [List.setIfInBounds_toArray, List.set_cons_zero, List.set_cons_succ]
      refine wpAnyH_take (i := 9) (v := ?_) rfl (by kernel_rfl) (by kernel_rfl) (by kernel_rfl) (fun _ _ _ h => h) (Or.inl ⟨by kernel_rfl, ?_⟩) (NodH.all N1) ?_
      rotate_left
      · (intro w0 hSw; (try dsimp only at hSw); obtain ⟨c0, c1, c2, c3, c4, c5, c6, c7, d0, d1, d2, d3, d4, d5, d6, hH⟩ := hSw; go_simp; try with_reducible rfl)
      try dsimp only [List.getElem_toArray, List.getElem_cons_succ, List.getElem_cons_zero, Act.put]
      try simp only [List.setIfInBounds_toArray, List.set_cons_zero, List.set_cons_succ]
      refine wpAnyH_ready (rs := [10]) (by kernel_rfl) (by simp) (AllReadyH.cons rfl (fun K hK => ?_) AllReadyH.nil)
      go_simp
      have N2 := N1.next (below_box w1 (.cells (Array.replicate 16 (.int .i64 0)) 81))
      refine hK.out _ _ (NodH.all N2) (fun hHeld2 => ?_)
      clear hK K
      try dsimp only [List.getElem_toArray, List.getElem_cons_succ, List.getElem_cons_zero, Act.put]
      try simp only [List.setIfInBounds_toArray, List.set_cons_zero, List.set_cons_succ]
      refine wpAnyH_ready (rs := [11]) (by kernel_rfl) (by simp) (AllReadyH.cons rfl (fun K hK => ?_) AllReadyH.nil)
      go_simp
      have N3 := N1.next (below_box w1 (.cells #[.int .i64 (at' x i).x, .int .i64 (at' x i).y, .int .i64 (at' x i).demand, .int .i64 (at' x i).ready, .int .i64 (at' x i).due, .int .i64 (at' x i).service, .int .i64 (at' x i).mate, .int .i64 (coordsS x.metric).1, .int .i64 (coordsS x.metric).2, .int .i64 (demandsS x.kind i).1, .int .i64 (demandsS x.kind i).2, .int .i64 (timesS x.kind).1, .int .i64 (timesS x.kind).2, .int .i64 (matesS x.kind i L).1, .int .i64 (matesS x.kind i L).2, .int .i64 (i : Int)] 81))
      have RR : Hid (NodS w bx x (.slice (some ⟨b, off, none⟩) L cap) (.slice am M cm) i L (w1.alloc (.cells #[.int .i64 (at' x i).x, .int .i64 (at' x i).y, .int .i64 (at' x i).demand, .int .i64 (at' x i).ready, .int .i64 (at' x i).due, .int .i64 (at' x i).service, .int .i64 (at' x i).mate, .int .i64 (coordsS x.metric).1, .int .i64 (coordsS x.metric).2, .int .i64 (demandsS x.kind i).1, .int .i64 (demandsS x.kind i).2, .int .i64 (timesS x.kind).1, .int .i64 (timesS x.kind).2, .int .i64 (matesS x.kind i L).1, .int .i64 (matesS x.kind i L).2, .int .i64 (i : Int)] 81)) w1.heap.size v l) :=
        ⟨N3.pb, World.alloc_heap_new _ _, HT.out.next N3.below, Told.of N3.below (by have := HT.out.sz; omega)⟩
      refine hK.out _ _ (NodH.all N3) (fun hHeld3 => ?_)
      clear hK K hHeld3 hHeld2 hHeld1 hHeld0 N3 N2 N1 N0d hb1
      refine wpAnyH_done (by kernel_rfl) ?_ _
      try dsimp only [List.getElem_toArray, List.getElem_cons_succ, List.getElem_cons_zero, Act.put]
      try simp only [List.setIfInBounds_toArray, List.set_cons_zero, List.set_cons_succ]
      go_wp2
      go_meet
      exact ⟨_, rfl, RR.out⟩
    · go_simp
      have N1 := N0d.next (below_box _ (.cells #[.int .i64 0, .int .i64 0, .int .i64 0, .int .i64 0, .int .i64 0, .int .i64 0, .int .i64 0, .int .i64 0, .int .i64 0, .int .i64 0, .int .i64 0, .int .i64 0, .int .i64 0, .int .i64 0, .int .i64 0, .int .i64 0] 81))
      have hsb : w.heap.size < W0.heap.size := (Array.getElem?_eq_some_iff.1 N0d.pb).1
      refine hK.out _ _ (NodH.all N1) (fun hHeld1 => ?_)
      clear hK K
      try dsimp only [List.getElem_toArray, List.getElem_cons_succ, List.getElem_cons_zero, Act.put]
      try simp only [List.setIfInBounds_toArray, List.set_cons_zero, List.set_cons_succ]
      refine wpAnyH_ready (rs := [7]) (by kernel_rfl) (by simp) (AllReadyH.cons rfl (fun K hK => ?_) AllReadyH.nil)
      go_simp
      go_at_call 74
      (with_reducible refine (B44.out _ (HX.out.next N1.below)).mono ?_)
      rintro e w1 ⟨rfl, hb1⟩
      have N2 := N1.next hb1
      have E1 : w1.heap[W0.heap.size]? = some (.cells #[.int .i64 0, .int .i64 0, .int .i64 0, .int .i64 0, .int .i64 0, .int .i64 0, .int .i64 0, .int .i64 0, .int .i64 0, .int .i64 0, .int .i64 0, .int .i64 0, .int .i64 0, .int .i64 0, .int .i64 0, .int .i64 0] 81) := (hb1.block _ (by show _ < (W0.heap.push _).size; simp)).trans (World.alloc_heap_new _ _)
      refine hK.out _ _ (NodH.all N2) (fun hHeld2 => ?_)
      clear hK K
      try dsimp only [List.getElem_toArray, List.getElem_cons_succ, List.getElem_cons_zero, Act.put]
      try simp only [List.setIfInBounds_toArray, List.set_cons_zero, List.set_cons_succ]
      refine wpAnyH_take (i := 9) (v := ?_) rfl (by kernel_rfl) (by kernel_rfl) (by kernel_rfl) (fun _ _ _ h => h) (Or.inl ⟨by kernel_rfl, ?_⟩) (NodH.all N2) ?_
      rotate_left
      · (intro w0 hSw; (try dsimp only at hSw); obtain ⟨c0, c1, c2, c3, c4, c5, c6, c7, d0, d1, d2, d3, d4, d5, d6, hH⟩ := hSw; go_simp; try with_reducible rfl)
      try dsimp only [List.getElem_toArray, List.getElem_cons_succ, List.getElem_cons_zero, Act.put]
      try simp only [List.setIfInBounds_toArray, List.set_cons_zero, List.set_cons_succ]
      refine wpAnyH_ready (rs := [11]) (by kernel_rfl) (by simp) (AllReadyH.cons rfl (fun K hK => ?_) AllReadyH.nil)
      have y0 : w1.cell? ⟨W0.heap.size, 0, none⟩ = some (.int .i64 0) := by unfold World.cell?; rw [E1]; rfl
      have f0 : w1.frozen? ⟨W0.heap.size, 0, none⟩ = false := by unfold World.frozen?; rw [E1]; rfl
      have y1 : w1.cell? ⟨W0.heap.size, 1, none⟩ = some (.int .i64 0) := by unfold World.cell?; rw [E1]; rfl
      have f1 : w1.frozen? ⟨W0.heap.size, 1, none⟩ = false := by unfold World.frozen?; rw [E1]; rfl
      have y2 : w1.cell? ⟨W0.heap.size, 2, none⟩ = some (.int .i64 0) := by unfold World.cell?; rw [E1]; rfl
      have f2 : w1.frozen? ⟨W0.heap.size, 2, none⟩ = false := by unfold World.frozen?; rw [E1]; rfl
      have y3 : w1.cell? ⟨W0.heap.size, 3, none⟩ = some (.int .i64 0) := by unfold World.cell?; rw [E1]; rfl
      have f3 : w1.frozen? ⟨W0.heap.size, 3, none⟩ = false := by unfold World.frozen?; rw [E1]; rfl
      have y4 : w1.cell? ⟨W0.heap.size, 4, none⟩ = some (.int .i64 0) := by unfold World.cell?; rw [E1]; rfl
      have f4 : w1.frozen? ⟨W0.heap.size, 4, none⟩ = false := by unfold World.frozen?; rw [E1]; rfl
      have y5 : w1.cell? ⟨W0.heap.size, 5, none⟩ = some (.int .i64 0) := by unfold World.cell?; rw [E1]; rfl
      have f5 : w1.frozen? ⟨W0.heap.size, 5, none⟩ = false := by unfold World.frozen?; rw [E1]; rfl
      have y6 : w1.cell? ⟨W0.heap.size, 6, none⟩ = some (.int .i64 0) := by unfold World.cell?; rw [E1]; rfl
      have f6 : w1.frozen? ⟨W0.heap.size, 6, none⟩ = false := by unfold World.frozen?; rw [E1]; rfl
      have y7 : w1.cell? ⟨W0.heap.size, 7, none⟩ = some (.int .i64 0) := by unfold World.cell?; rw [E1]; rfl
      have f7 : w1.frozen? ⟨W0.heap.size, 7, none⟩ = false := by unfold World.frozen?; rw [E1]; rfl
      have y8 : w1.cell? ⟨W0.heap.size, 8, none⟩ = some (.int .i64 0) := by unfold World.cell?; rw [E1]; rfl
      have f8 : w1.frozen? ⟨W0.heap.size, 8, none⟩ = false := by unfold World.frozen?; rw [E1]; rfl
      have y9 : w1.cell? ⟨W0.heap.size, 9, none⟩ = some (.int .i64 0) := by unfold World.cell?; rw [E1]; rfl
      have f9 : w1.frozen? ⟨W0.heap.size, 9, none⟩ = false := by unfold World.frozen?; rw [E1]; rfl
      have y10 : w1.cell? ⟨W0.heap.size, 10, none⟩ = some (.int .i64 0) := by unfold World.cell?; rw [E1]; rfl
      have f10 : w1.frozen? ⟨W0.heap.size, 10, none⟩ = false := by unfold World.frozen?; rw [E1]; rfl
      have y11 : w1.cell? ⟨W0.heap.size, 11, none⟩ = some (.int .i64 0) := by unfold World.cell?; rw [E1]; rfl
      have f11 : w1.frozen? ⟨W0.heap.size, 11, none⟩ = false := by unfold World.frozen?; rw [E1]; rfl
      have y12 : w1.cell? ⟨W0.heap.size, 12, none⟩ = some (.int .i64 0) := by unfold World.cell?; rw [E1]; rfl
      have f12 : w1.frozen? ⟨W0.heap.size, 12, none⟩ = false := by unfold World.frozen?; rw [E1]; rfl
      have y13 : w1.cell? ⟨W0.heap.size, 13, none⟩ = some (.int .i64 0) := by unfold World.cell?; rw [E1]; rfl
      have f13 : w1.frozen? ⟨W0.heap.size, 13, none⟩ = false := by unfold World.frozen?; rw [E1]; rfl
      have y14 : w1.cell? ⟨W0.heap.size, 14, none⟩ = some (.int .i64 0) := by unfold World.cell?; rw [E1]; rfl
      have f14 : w1.frozen? ⟨W0.heap.size, 14, none⟩ = false := by unfold World.frozen?; rw [E1]; rfl
      have y15 : w1.cell? ⟨W0.heap.size, 15, none⟩ = some (.int .i64 0) := by unfold World.cell?; rw [E1]; rfl
      have f15 : w1.frozen? ⟨W0.heap.size, 15, none⟩ = false := by unfold World.frozen?; rw [E1]; rfl
      have N4 : NodH w x (.slice (some ⟨b, off, none⟩) L cap) (.slice am M cm) b off i ((((((((((((((((w1.setCell ⟨W0.heap.size, 0, none⟩ (.int .i64 (at' x i).x)).setCell ⟨W0.heap.size, 1, none⟩ (.int .i64 (at' x i).y)).setCell ⟨W0.heap.size, 2, none⟩ (.int .i64 (at' x i).demand)).setCell ⟨W0.heap.size, 3, none⟩ (.int .i64 (at' x i).ready)).setCell ⟨W0.heap.size, 4, none⟩ (.int .i64 (at' x i).due)).setCell ⟨W0.heap.size, 5, none⟩ (.int .i64 (at' x i).service)).setCell ⟨W0.heap.size, 6, none⟩ (.int .i64 (at' x i).mate)).setCell ⟨W0.heap.size, 7, none⟩ (.int .i64 (coordsS x.metric).1)).setCell ⟨W0.heap.size, 8, none⟩ (.int .i64 (coordsS x.metric).2)).setCell ⟨W0.heap.size, 9, none⟩ (.int .i64 (demandsS x.kind i).1)).setCell ⟨W0.heap.size, 10, none⟩ (.int .i64 (demandsS x.kind i).2)).setCell ⟨W0.heap.size, 11, none⟩ (.int .i64 (timesS x.kind).1)).setCell ⟨W0.heap.size, 12, none⟩ (.int .i64 (timesS x.kind).2)).setCell ⟨W0.heap.size, 13, none⟩ (.int .i64 (matesS x.kind i L).1)).setCell ⟨W0.heap.size, 14, none⟩ (.int .i64 (matesS x.kind i L).2)).setCell ⟨W0.heap.size, 15, none⟩ (.int .i64 (i : Int))) := ((((((((((((((((N2.setc hsb 0 (.int .i64 (at' x i).x)).setc hsb 1 (.int .i64 (at' x i).y)).setc hsb 2 (.int .i64 (at' x i).demand)).setc hsb 3 (.int .i64 (at' x i).ready)).setc hsb 4 (.int .i64 (at' x i).due)).setc hsb 5 (.int .i64 (at' x i).service)).setc hsb 6 (.int .i64 (at' x i).mate)).setc hsb 7 (.int .i64 (coordsS x.metric).1)).setc hsb 8 (.int .i64 (coordsS x.metric).2)).setc hsb 9 (.int .i64 (demandsS x.kind i).1)).setc hsb 10 (.int .i64 (demandsS x.kind i).2)).setc hsb 11 (.int .i64 (timesS x.kind).1)).setc hsb 12 (.int .i64 (timesS x.kind).2)).setc hsb 13 (.int .i64 (matesS x.kind i L).1)).setc hsb 14 (.int .i64 (matesS x.kind i L).2)).setc hsb 15 (.int .i64 (i : Int)))
      have RR : Hid (NodS w bx x (.slice (some ⟨b, off, none⟩) L cap) (.slice am M cm) i L ((((((((((((((((w1.setCell ⟨W0.heap.size, 0, none⟩ (.int .i64 (at' x i).x)).setCell ⟨W0.heap.size, 1, none⟩ (.int .i64 (at' x i).y)).setCell ⟨W0.heap.size, 2, none⟩ (.int .i64 (at' x i).demand)).setCell ⟨W0.heap.size, 3, none⟩ (.int .i64 (at' x i).ready)).setCell ⟨W0.heap.size, 4, none⟩ (.int .i64 (at' x i).due)).setCell ⟨W0.heap.size, 5, none⟩ (.int .i64 (at' x i).service)).setCell ⟨W0.heap.size, 6, none⟩ (.int .i64 (at' x i).mate)).setCell ⟨W0.heap.size, 7, none⟩ (.int .i64 (coordsS x.metric).1)).setCell ⟨W0.heap.size, 8, none⟩ (.int .i64 (coordsS x.metric).2)).setCell ⟨W0.heap.size, 9, none⟩ (.int .i64 (demandsS x.kind i).1)).setCell ⟨W0.heap.size, 10, none⟩ (.int .i64 (demandsS x.kind i).2)).setCell ⟨W0.heap.size, 11, none⟩ (.int .i64 (timesS x.kind).1)).setCell ⟨W0.heap.size, 12, none⟩ (.int .i64 (timesS x.kind).2)).setCell ⟨W0.heap.size, 13, none⟩ (.int .i64 (matesS x.kind i L).1)).setCell ⟨W0.heap.size, 14, none⟩ (.int .i64 (matesS x.kind i L).2)).setCell ⟨W0.heap.size, 15, none⟩ (.int .i64 (i : Int))) W0.heap.size v l) :=
        ⟨N4.pb, set16 E1, HT.out.next N4.below, Told.of N4.below (by have := HT.out.sz; omega)⟩
      go_simp
      refine hK.out _ _ (NodH.all N4) (fun hHeld3 => ?_)
      clear hK K hHeld3 hHeld2 hHeld1 hHeld0 N4 N2 N1 N0d hb1 E1 y0 f0 y1 f1 y2 f2 y3 f3 y4 f4 y5 f5 y6 f6 y7 f7 y8 f8 y9 f9 y10 f10 y11 f11 y12 f12 y13 f13 y14 f14 y15 f15
      refine wpAnyH_done (by kernel_rfl) ?_ _
      try dsimp only [List.getElem_toArray, List.getElem_cons_succ, List.getElem_cons_zero, Act.put]
      try simp only [List.setIfInBounds_toArray, List.set_cons_zero, List.set_cons_succ]
      go_wp2
      go_meet
      exact ⟨_, rfl, RR.out⟩
  case rest =>
  obtain ⟨sb, rfl, hS⟩ := hcut
  have S1 := Lib.hid hS
  have hl0 := HL.out
  clear hS N0
  go_upto_region 2 with (fail)
  go_cut [7] from 7 to 43 (fun _ wx => ∃ v', NodS w bx x (.slice (some ⟨b, off, none⟩) L cap) (.slice am M cm) i L wx sb v' (l ++ says b9 9 i))
  case first =>
    have q := Lib.hid S1.out.range
    go_wp2_with (refine wpList_load_mid rfl 81 _ rfl sb 0 rfl _ _ q.out Try.underlying81 rfl Try.size70 ?_)
    refine (F9.out _).mono ?_
    rintro e w1a ⟨rfl, h1⟩
    have T1 := Lib.hid (S1.out.next h1)
    clear h1 S1 q
    go_wp2_with (fail)
    refine (HTC.out 9 i b9 _ (l) _ T1.out.tell (by omega)).mono ?_
    rintro e w1b ⟨rfl, v1, h1, t1⟩
    have S2 := Lib.hid (T1.out.step h1 t1)
    clear T1 h1 t1
    go_wp2
    go_meet
    exact ⟨_, S2.out⟩
  case rest =>
  clear S1
  obtain ⟨v1, hS⟩ := hcut
  obtain ⟨w1b, rfl⟩ : ∃ W, W = wc := ⟨_, rfl⟩
  have S2 := Lib.hid hS
  clear hS
  have hl1 := says_len (l) b9 9 i
  go_upto_region 3 with (fail)
  go_cut [7] from 7 to 43 (fun _ wx => ∃ v', NodS w bx x (.slice (some ⟨b, off, none⟩) L cap) (.slice am M cm) i L wx sb v' (l ++ says b9 9 i ++ says b10 10 i))
  case first =>
    have q := Lib.hid S2.out.range
    go_wp2_with (refine wpList_load_mid rfl 81 _ rfl sb 0 rfl _ _ q.out Try.underlying81 rfl Try.size70 ?_)
    refine (F10.out _).mono ?_
    rintro e w2a ⟨rfl, h2⟩
    have T2 := Lib.hid (S2.out.next h2)
    clear h2 S2 q
    go_wp2_with (fail)
    refine (HTC.out 10 i b10 _ (l ++ says b9 9 i) _ T2.out.tell (by omega)).mono ?_
    rintro e w2b ⟨rfl, v2, h2, t2⟩
    have S3 := Lib.hid (T2.out.step h2 t2)
    clear T2 h2 t2
    go_wp2
    go_meet
    exact ⟨_, S3.out⟩
  case rest =>
  clear S2
  obtain ⟨v2, hS⟩ := hcut
  obtain ⟨w2b, rfl⟩ : ∃ W, W = wc := ⟨_, rfl⟩
  have S3 := Lib.hid hS
  clear hS
  have hl2 := says_len (l ++ says b9 9 i) b10 10 i
  go_upto_region 4 with (fail)
  go_cut [7] from 7 to 43 (fun _ wx => ∃ v', NodS w bx x (.slice (some ⟨b, off, none⟩) L cap) (.slice am M cm) i L wx sb v' (l ++ says b9 9 i ++ says b10 10 i ++ says b11 11 i))
  case first =>
    have q := Lib.hid S3.out.range
    go_wp2_with (refine wpList_load_mid rfl 81 _ rfl sb 0 rfl _ _ q.out Try.underlying81 rfl Try.size70 ?_)
    refine (F11.out _).mono ?_
    rintro e w3a ⟨rfl, h3⟩
    have T3 := Lib.hid (S3.out.next h3)
    clear h3 S3 q
    go_wp2_with (fail)
    refine (HTC.out 11 i b11 _ (l ++ says b9 9 i ++ says b10 10 i) _ T3.out.tell (by omega)).mono ?_
    rintro e w3b ⟨rfl, v3, h3, t3⟩
    have S4 := Lib.hid (T3.out.step h3 t3)
    clear T3 h3 t3
    go_wp2
    go_meet
    exact ⟨_, S4.out⟩
  case rest =>
  clear S3
  obtain ⟨v3, hS⟩ := hcut
  obtain ⟨w3b, rfl⟩ : ∃ W, W = wc := ⟨_, rfl⟩
  have S4 := Lib.hid hS
  clear hS
  have hl3 := says_len (l ++ says b9 9 i ++ says b10 10 i) b11 11 i
  go_upto_region 5 with (fail)
  go_cut [7] from 7 to 43 (fun _ wx => ∃ v', NodS w bx x (.slice (some ⟨b, off, none⟩) L cap) (.slice am M cm) i L wx sb v' (l ++ says b9 9 i ++ says b10 10 i ++ says b11 11 i ++ says b12 12 i))
  case first =>
    have q := Lib.hid S4.out.range
    go_wp2_with (refine wpList_load_mid rfl 81 _ rfl sb 0 rfl _ _ q.out Try.underlying81 rfl Try.size70 ?_)
    refine (F12.out _).mono ?_
    rintro e w4a ⟨rfl, h4⟩
    have T4 := Lib.hid (S4.out.next h4)
    clear h4 S4 q
    go_wp2_with (fail)
    refine (HTC.out 12 i b12 _ (l ++ says b9 9 i ++ says b10 10 i ++ says b11 11 i) _ T4.out.tell (by omega)).mono ?_
    rintro e w4b ⟨rfl, v4, h4, t4⟩
    have S5 := Lib.hid (T4.out.step h4 t4)
    clear T4 h4 t4
    go_wp2
    go_meet
    exact ⟨_, S5.out⟩
  case rest =>
  clear S4
  obtain ⟨v4, hS⟩ := hcut
  obtain ⟨w4b, rfl⟩ : ∃ W, W = wc := ⟨_, rfl⟩
  have S5 := Lib.hid hS
  clear hS
  have hl4 := says_len (l ++ says b9 9 i ++ says b10 10 i ++ says b11 11 i) b12 12 i
  have q := Lib.hid S5.out.range
  have p6 : w4b.cell? ⟨w.heap.size, 6, none⟩ = some (.slice (some ⟨b, off, none⟩) L cap) := S5.out.p 6
  go_wp2_with (refine wpList_load_mid rfl 81 _ rfl sb 0 rfl _ _ q.out Try.underlying81 rfl Try.size70 ?_)
  refine (F13.out _ S5.out.tell.sz S5.out.told.below).mono ?_
  rintro e w5a ⟨rfl, h5⟩
  have T5 := Lib.hid (S5.out.next h5)
  clear h5 S5 q p6
  go_wp2_with (fail)
  refine (HTC.out 13 i b13 _ (l ++ says b9 9 i ++ says b10 10 i ++ says b11 11 i ++ says b12 12 i) _ T5.out.tell (by omega)).mono ?_
  rintro e w5b ⟨rfl, v5, h5, t5⟩
  have S6 := Lib.hid (T5.out.step h5 t5)
  clear T5 h5 t5
  go_wp2
  go_end0
  exact ⟨rfl, _, by rw [HE.out]; exact S6.out.tell, S6.out.told⟩
end Go.Proofs
