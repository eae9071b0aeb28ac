/- The document's own times. Conditions: a route of a million stops at most; an instance that may be relied on. -/
import Derived.Test.YthgagmndefaniaaG15
import Derived.Deep.DrawnRows
import Derived.Deep.RegionHeld3
namespace Go.Proofs
open Go.RowKit Go.Shelf Go.Canon Go.Feas Go.Plans
attribute [local go_sem] Oper.semAt_some
attribute [local go_sem ↓] Go.wp_at_zero Go.wp_at_succ
theorem ftret {v : Value} {a b : Int} (h : a = b) : Ending.returned (.tuple #[v, .int .i64 a]) = .returned (.tuple #[v, .int .i64 b]) := by rw [h]
theorem wrap_unit {x : Ins} {n : Int} (h : 0 ≤ n ∧ n ≤ 100000000) : ∃ q, wrap64 (unit x * n) = q ∧ unit x * n = q ∧ 0 ≤ q ∧ q ≤ 1000000000 := by
  have := unit_mul (x := x) h
  exact ⟨_, by unfold wrap64; omega, rfl, this⟩
/-- An instance in its box, what came in, and a row of a call's own, in whatever comes behind. -/
structure RowS (w : World) (x : Ins) (vn vm : Value) (o : Value) (k : Nat) (xs : List Value) (W : World) : Prop where
  box : InsBox W w.heap.size x vn vm 40
  below : Below w.heap.size w W
  row : W.ownsRow (w.heap.size + 1) 3 1 o k xs
theorem RowS.next {w W W' : World} {x : Ins} {vn vm o : Value} {k : Nat} {xs : List Value} (h : RowS w x vn vm o k xs W) (hb : Below W.heap.size W W') : RowS w x vn vm o k xs W' :=
  ⟨h.box.next hb, h.below.trans (hb.mono h.below.size), fowns_next h.row hb⟩
theorem RowS.drew {w W : World} {x : Ins} {vn vm o : Value} {k : Nat} {xs : List Value} (h : RowS w x vn vm o k xs W) : RowS w x vn vm o k xs W.drew := ⟨h.box, h.below.drew, h.row⟩
theorem RowS.drewN {w W : World} {x : Ins} {vn vm o : Value} {k : Nat} {xs : List Value} (h : RowS w x vn vm o k xs W) (n : Nat) : RowS w x vn vm o k xs (W.drewN n) := ⟨h.box, cbelow_drewN h.below n, h.row⟩
theorem RowS.alloc {w W : World} {x : Ins} {vn vm o : Value} {k : Nat} {xs : List Value} (h : RowS w x vn vm o k xs W) (ob : Obj) : RowS w x vn vm o k xs (W.alloc ob) := h.next (fbelow_box W ob)
/-- A node in a box. -/
def NdBox (W : World) (D : Nat) (d : Nd) (t : TypeId) : Prop := W.heap[D]? = some (.cells #[Value.int .i64 d.x, .int .i64 d.y, .int .i64 d.demand, .int .i64 d.ready, .int .i64 d.due, .int .i64 d.service, .int .i64 d.mate] t)
theorem NdBox.new (w : World) (d : Nd) (t : TypeId) : NdBox (w.alloc (.cells #[Value.int .i64 d.x, .int .i64 d.y, .int .i64 d.demand, .int .i64 d.ready, .int .i64 d.due, .int .i64 d.service, .int .i64 d.mate] t)) w.heap.size d t := World.alloc_heap_new w _
theorem NdBox.lt {W : World} {D : Nat} {d : Nd} {t : TypeId} (h : NdBox W D d t) : D < W.heap.size := (Array.getElem?_eq_some_iff.1 h).1
theorem NdBox.next {W W' : World} {D : Nat} {d : Nd} {t : TypeId} (h : NdBox W D d t) (hb : Below W.heap.size W W') : NdBox W' D d t := (hb.block D h.lt).trans h
theorem NdBox.grown {W W' : World} {D : Nat} {d : Nd} {t : TypeId} {row : Option Nat} (h : NdBox W D d t) (hg : W.grownBy W' row) (hne : row ≠ some D) : NdBox W' D d t := (hg.block D h.lt (fun e => hne e.symm)).trans h
theorem NdBox.c {W : World} {D : Nat} {d : Nd} {t : TypeId} (h : NdBox W D d t) (j : Nat) : W.cell? ⟨D, j, none⟩ = (#[Value.int .i64 d.x, .int .i64 d.y, .int .i64 d.demand, .int .i64 d.ready, .int .i64 d.due, .int .i64 d.service, .int .i64 d.mate] : Array Value)[j]? := by
  unfold World.cell?; unfold NdBox at h; rw [h]; rfl
theorem NdBox.cells {W : World} {D : Nat} {d : Nd} {t : TypeId} (h : NdBox W D d t) : W.cell? ⟨D, 0, none⟩ = some (.int .i64 d.x) ∧ W.cell? ⟨D, 1, none⟩ = some (.int .i64 d.y) ∧ W.cell? ⟨D, 2, none⟩ = some (.int .i64 d.demand) ∧ W.cell? ⟨D, 3, none⟩ = some (.int .i64 d.ready) ∧ W.cell? ⟨D, 4, none⟩ = some (.int .i64 d.due) ∧ W.cell? ⟨D, 5, none⟩ = some (.int .i64 d.service) ∧ W.cell? ⟨D, 6, none⟩ = some (.int .i64 d.mate) := ⟨h.c 0, h.c 1, h.c 2, h.c 3, h.c 4, h.c 5, h.c 6⟩
theorem RowS.grow {w W W' : World} {x : Ins} {vn vm o o' : Value} {k k' : Nat} {xs xs' : List Value} (h : RowS w x vn vm o k xs W) (hg : W.grownBy W' o.ownBlock) (hr : W'.ownsRow (w.heap.size + 1) 3 1 o' k' xs') : RowS w x vn vm o' k' xs' W' :=
  ⟨h.box.grown (Nat.lt_succ_self _) h.row hg, fgrown_below h.below h.below.size (Nat.le_succ _) h.row hg, hr⟩
theorem rowS_S {w W : World} {x : Ins} {vn vm o : Value} {k : Nat} {xs : List Value} (h : RowS w x vn vm o k xs W) :
    W.cell? ⟨w.heap.size, 0, none⟩ = some (.string x.name) ∧ W.cell? ⟨w.heap.size, 1, none⟩ = some (.int .i64 x.kind) ∧ W.cell? ⟨w.heap.size, 2, none⟩ = some (.int .i64 x.metric) ∧ W.cell? ⟨w.heap.size, 3, none⟩ = some (.int .i64 x.scale) ∧ W.cell? ⟨w.heap.size, 4, none⟩ = some (.int .i64 x.cap) ∧ W.cell? ⟨w.heap.size, 5, none⟩ = some (.int .i64 x.fleet) ∧ W.cell? ⟨w.heap.size, 6, none⟩ = some vn ∧ W.cell? ⟨w.heap.size, 7, none⟩ = some vm ∧ RowS w x vn vm o k xs W := by
  obtain ⟨c0, c1, c2, c3, c4, c5, c6, c7⟩ := h.box.cells
  exact ⟨c0, c1, c2, c3, c4, c5, c6, c7, h⟩
theorem rowS_nd {w W : World} {x : Ins} {vn vm o : Value} {k : Nat} {xs : List Value} {b2 o2 b off : Nat} {s : Int} {d : Nd} (h : RowS w x vn vm o k xs W) (hb2 : b2 < w.heap.size) (hc : w.cell? ⟨b2, o2, none⟩ = some (.int .i64 s)) (hb : b < w.heap.size) (hd : NdAt w b off d) :
    W.cell? ⟨w.heap.size, 6, none⟩ = some vn ∧ W.cell? ⟨b2, o2, none⟩ = some (.int .i64 s) ∧ W.cell? ⟨b, off, none⟩ = some (.int .i64 d.x) ∧ W.cell? ⟨b, off + 1, none⟩ = some (.int .i64 d.y) ∧ W.cell? ⟨b, off + 2, none⟩ = some (.int .i64 d.demand) ∧ W.cell? ⟨b, off + 3, none⟩ = some (.int .i64 d.ready) ∧ W.cell? ⟨b, off + 4, none⟩ = some (.int .i64 d.due) ∧ W.cell? ⟨b, off + 5, none⟩ = some (.int .i64 d.service) ∧ W.cell? ⟨b, off + 6, none⟩ = some (.int .i64 d.mate) ∧ RowS w x vn vm o k xs W := by
  obtain ⟨d0, d1, d2, d3, d4, d5, d6⟩ := hd.below h.below hb
  exact ⟨h.box.c 6, (h.below.cell (p := ⟨b2, o2, none⟩) hb2).trans hc, d0, d1, d2, d3, d4, d5, d6, h⟩
structure NdRowS (w : World) (x : Ins) (vn vm : Value) (o : Value) (k : Nat) (xs : List Value) (D : Nat) (d : Nd) (t : TypeId) (W : World) : Prop where
  row : RowS w x vn vm o k xs W
  nd : NdBox W D d t
theorem NdRowS.next {w W W' : World} {x : Ins} {vn vm o : Value} {k : Nat} {xs : List Value} {D : Nat} {d : Nd} {t : TypeId} (h : NdRowS w x vn vm o k xs D d t W) (hb : Below W.heap.size W W') : NdRowS w x vn vm o k xs D d t W' := ⟨h.row.next hb, h.nd.next hb⟩
theorem NdRowS.drew {w W : World} {x : Ins} {vn vm o : Value} {k : Nat} {xs : List Value} {D : Nat} {d : Nd} {t : TypeId} (h : NdRowS w x vn vm o k xs D d t W) : NdRowS w x vn vm o k xs D d t W.drew := ⟨h.row.drew, h.nd⟩
theorem ndRowS_S {w W : World} {x : Ins} {vn vm o : Value} {k : Nat} {xs : List Value} {D b2 o2 : Nat} {s : Int} {d : Nd} {t : TypeId} (h : NdRowS w x vn vm o k xs D d t W) (hb2 : b2 < w.heap.size) (hc : w.cell? ⟨b2, o2, none⟩ = some (.int .i64 s)) :
    W.cell? ⟨w.heap.size, 0, none⟩ = some (.string x.name) ∧ W.cell? ⟨w.heap.size, 1, none⟩ = some (.int .i64 x.kind) ∧ W.cell? ⟨w.heap.size, 2, none⟩ = some (.int .i64 x.metric) ∧ W.cell? ⟨w.heap.size, 3, none⟩ = some (.int .i64 x.scale) ∧ W.cell? ⟨w.heap.size, 4, none⟩ = some (.int .i64 x.cap) ∧ W.cell? ⟨w.heap.size, 5, none⟩ = some (.int .i64 x.fleet) ∧ W.cell? ⟨w.heap.size, 6, none⟩ = some vn ∧ W.cell? ⟨w.heap.size, 7, none⟩ = some vm ∧ W.cell? ⟨b2, o2, none⟩ = some (.int .i64 s) ∧ NdRowS w x vn vm o k xs D d t W := by
  obtain ⟨c0, c1, c2, c3, c4, c5, c6, c7⟩ := h.row.box.cells
  exact ⟨c0, c1, c2, c3, c4, c5, c6, c7, (h.row.below.cell (p := ⟨b2, o2, none⟩) hb2).trans hc, h⟩
set_option maxRecDepth 100000 in
set_option maxHeartbeats 2000000 in
theorem Try.Rtimes_some (x : Ins) (vn vm v : Value) (r : List Int) (w : World) (hx : HasIns w vn vm x) (hg : Fine x) (hl : r.length ≤ 1000000) (hv : HasInts w v r) (hr0 : r.length ≠ 0) (hnb : nodesB x r = true) :
    Calls Try.prog 42 #[insV x vn vm, v] w fun e w' => ∃ v', e = .returned (.tuple #[v', .int .i64 (lateI x r)]) ∧ w'.ownsRow (w.heap.size + 1) 3 1 v' (timesL x r).length ((timesL x r).map intV) ∧ Below w.heap.size w w' := by
  obtain ⟨i0, hi, hz0, hz1, hz2⟩ := info_parts Try.info3
  have HI := Lib.hid hi
  have HX := Lib.hid hx
  have HQ : Hid (∀ W, HasIns W vn vm x → HasInts W v r → Calls Try.prog 43 #[insV x vn vm, v] W fun e w' => e = .returned (.bool true) ∧ Below W.heap.size W w') := fun W h k => hnb ▸ Try.rnodes_calls x vn vm v r W h hl k
  have HU := Lib.hid fun W h => Try.RUnit_calls x vn vm W h
  have HW := Lib.hid fun i j W h hi hj => Try.RBetween_calls x vn vm i j W h hg hi hj
  obtain ⟨b, off, cn, rfl, hlc, hcm, hNo⟩ := hx.all hg.lo
  obtain ⟨am, cm, rfl, _⟩ := hx.matrix.dat
  have HV := Lib.hid hv
  obtain ⟨ar, cr, rfl⟩ := hv.len
  obtain ⟨n, hn⟩ : ∃ n, r.length = n := ⟨_, rfl⟩
  rw [hn] at hl HV HQ hr0 ⊢
  have HN := Lib.hid hn
  obtain ⟨L, hL⟩ : ∃ L, x.nodes.length = L := ⟨_, rfl⟩
  have HL := Lib.hid hL
  have HNO := Lib.hid fun i hi => nodesAt_nd hNo (i := i) hi
  have hbw := hNo.1
  have hlo := hg.lo
  have HD0 := Lib.hid (nodesAt_nd hNo (i := 0) hg.lo)
  rw [hL] at HX HQ HU HW hlo ⊢
  have hL0 : (0 : Int) < (L : Int) := by omega
  have HG := Lib.hid hg
  have HT := Lib.hid hnb
  have hne : ((n : Int) == 0) = false := beq_eq_false_iff_ne.2 (by omega)
  unfold insV at HQ HU HW ⊢
  obtain ⟨u0, w0, hu0, b0⟩ := wrap_unit (x := x) (hg.ready 0)
  have HST : Hid ((tstart x).now = unit x * (at' x 0).ready) := rfl
  have hub := unit_bounds x
  clear hx hv hn hL hg hi hNo hnb
  have HB0 := Lib.hid ((InsBox.new w x (.slice (some ⟨b, off, none⟩) L cn) (.slice am x.matrix.length cm) 40).alloc (.cells #[] 3))
  have HR0 := Lib.hid ((fbelow_box w (.cells #[.string x.name, .int .i64 x.kind, .int .i64 x.metric, .int .i64 x.scale, .int .i64 x.cap, .int .i64 x.fleet, .slice (some ⟨b, off, none⟩) L cn, .slice am x.matrix.length cm] 40)).alloc (by simp) (.cells #[] 3))
  have HO0 : Hid (((w.alloc (.cells #[.string x.name, .int .i64 x.kind, .int .i64 x.metric, .int .i64 x.scale, .int .i64 x.cap, .int .i64 x.fleet, .slice (some ⟨b, off, none⟩) L cn, .slice am x.matrix.length cm] 40)).alloc (.cells #[] 3)).ownsRow (w.heap.size + 1) 3 1 (.slice (some ⟨w.heap.size + 1, 0, none⟩) 0 0) 0 []) := by
    have h := owns_empty1 (w.alloc (.cells #[.string x.name, .int .i64 x.kind, .int .i64 x.metric, .int .i64 x.scale, .int .i64 x.cap, .int .i64 x.fleet, .slice (some ⟨b, off, none⟩) L cn, .slice am x.matrix.length cm] 40)) 3
    unfold Hid; simpa using h
  obtain ⟨uu, huu⟩ : ∃ uu, unit x = uu := ⟨_, rfl⟩
  rw [hu0] at HST
  rw [huu] at HU w0 hub
  have HUU := Lib.hid huu
  clear huu hu0
  generalize hd0 : at' x 0 = d0 at HD0 w0
  have HD00 := Lib.hid hd0
  clear hd0
  go_enter Try.func42, Try.ntmps42
  go_wp2_with (go_at_call 43; (with_reducible refine (HQ.out _ (HX.out.next HR0.out) (HV.out.next HR0.out)).mono ?_); rintro e w1 ⟨rfl, hb1⟩; have HB1 := Lib.hid (HB0.out.next hb1); have HR1 := Lib.hid (HR0.out.trans (hb1.mono HR0.out.size)); have HO1 := Lib.hid (fowns_next HO0.out hb1); obtain ⟨c0, c1, c2, c3, c4, c5, c6, c7⟩ := HB1.out.cells; clear hb1)
  go_wp2_with (go_at_call 57; (with_reducible refine (HU.out _ (HX.out.next HR1.out)).mono ?_); rintro e w2 ⟨rfl, hb2⟩; have HB2 := Lib.hid (HB1.out.next hb2); have HR2 := Lib.hid (HR1.out.trans (hb2.mono HR1.out.size)); have HO2 := Lib.hid (fowns_next HO1.out hb2); clear c0 c1 c2 c3 c4 c5 c6 c7; obtain ⟨c0, c1, c2, c3, c4, c5, c6, c7⟩ := HB2.out.cells; have hd0 := HD0.out.below HR2.out hbw; have hd0r := hd0.ready; clear hb2 hd0)
  clear HB0 HR0 HO0 HQ HB1 HR1 HO1 HU
  have HS2 : Hid (RowS w x (.slice (some ⟨b, off, none⟩) L cn) (.slice am x.matrix.length cm) (.slice (some ⟨w.heap.size + 1, 0, none⟩) 0 0) 0 [] w2) := ⟨HB2.out, HR2.out, HO2.out⟩
  have HW0 := Lib.hid w0
  clear HB2 HR2 HO2 c0 c1 c2 c3 c4 c5 c6 c7 hd0r w0
  go_loopw [6, 8, 9, 10, 11] (fun o lt pt nw i wr => ∃ k : Nat, k ≤ n ∧ i = .int .i64 (k : Int) ∧ lt = .int .i64 (timesF x (r.take k)).late ∧ pt = .int .i64 ((timesF x (r.take k)).pos : Int) ∧ nw = .int .i64 (timesF x (r.take k)).now ∧ RowS w x (.slice (some ⟨b, off, none⟩) L cn) (.slice am x.matrix.length cm) o k ((timesF x (r.take k)).out.map intV) wr) (fun _ _ _ _ i _ => n - (intOf i).toNat)
  case atStart => exact ⟨0, Nat.zero_le _, rfl, rfl, rfl, by show _ = Value.int .i64 (tstart x).now; rw [HST.out, HW0.out], HS2.out⟩
  case round =>
    obtain ⟨k, hk, rfl, rfl, rfl, rfl, hS⟩ := hrel
    have HS := Lib.hid hS
    clear HS2
    by_cases hlt : k < n
    · obtain ⟨s, hs⟩ : ∃ s, r[k]? = some s := ⟨_, List.getElem?_eq_getElem (by have := HN.out; omega)⟩
      have hki : (k : Int) < (n : Int) := by omega
      obtain ⟨b2, off2, cap, e, _, _, hbw2, hc⟩ := HV.out.atc hs
      rw [HN.out] at e
      injection e with h1 h2 h3
      subst h1
      subst h3
      clear h2
      have hsn := nodeB_lt (nodesB_at HT.out hs)
      have HE := Lib.hid (by rw [ptake_snoc hs, timesF_snoc] : timesF x (r.take (k + 1)) = timeStep x (timesF x (r.take k)) s)
      have hTB := timesF_bounds HG.out (r.take k) (nodesB_sub HT.out k)
      rw [List.length_take, Nat.min_eq_left (by have := HN.out; omega)] at hTB
      have hbg := begins_bounds HG.out hTB (nodesB_at HT.out hs)
      have hol := timesF_length x (r.take k)
      rw [List.length_take, Nat.min_eq_left (by have := HN.out; omega)] at hol
      obtain ⟨m, rfl⟩ : ∃ m : Nat, s = (m : Int) := ⟨s.toNat, by omega⟩
      simp only [Int.toNat_natCast] at hsn
      have hwb := way_bounds HG.out hTB.pos hsn.2.1
      have HWY := Lib.hid fun W h => HW.out (timesF x (r.take k)).pos m W h (by have := hTB.pos; have := HL.out; omega) (by have := HL.out; omega)
      rw [HL.out] at hsn
      have hmL := hsn.2.2
      have HDN := Lib.hid (HNO.out m (by have := HL.out; omega))
      obtain ⟨ur, q1, hur, p1⟩ := wrap_unit (x := x) (HG.out.ready m)
      obtain ⟨ud, q2, hud, p2⟩ := wrap_unit (x := x) (HG.out.due m)
      obtain ⟨us, q3, hus, p3⟩ := wrap_unit (x := x) (HG.out.service m)
      have hst : timeStep x (timesF x (r.take k)) (m : Int) = ⟨max ((timesF x (r.take k)).now + way x (timesF x (r.take k)).pos m) (unit x * (at' x m).ready) + unit x * (at' x m).service, m, if (timesF x (r.take k)).late < 0 ∧ unit x * (at' x m).due < max ((timesF x (r.take k)).now + way x (timesF x (r.take k)).pos m) (unit x * (at' x m).ready) then ((timesF x (r.take k)).out.length : Int) else (timesF x (r.take k)).late, (timesF x (r.take k)).out ++ [max ((timesF x (r.take k)).now + way x (timesF x (r.take k)).pos m) (unit x * (at' x m).ready)]⟩ := by
        unfold timeStep begins nd; simp only [Int.toNat_natCast]
      have HBG : Hid (begins x (timesF x (r.take k)) (m : Int) = max ((timesF x (r.take k)).now + way x (timesF x (r.take k)).pos m) (unit x * (at' x m).ready)) := by
        unfold Hid begins nd; simp only [Int.toNat_natCast]
      rw [HBG.out] at hbg
      have hnow := hTB.now
      rw [hol] at hst
      have HST := Lib.hid hst
      clear hst hTB hs hol
      rw [hur, hud, hus] at HST
      rw [hur] at hbg
      rw [HUU.out] at q1 q2 q3
      clear hur hud hus HBG
      generalize timesF x (r.take k) = t at *
      obtain ⟨tn, tp, tl, tqz⟩ := t
      simp only at *
      generalize way x tp m = wy at *
      generalize hdd : at' x m = d at *
      obtain ⟨bg, hbgg⟩ : ∃ q, max (tn + wy) ur = q := ⟨_, rfl⟩
      rw [hbgg] at hbg HST
      clear hdd hS
      go_wp2_with (fail)
      go_region_held3 (fun W => W.cell? ⟨w.heap.size, 6, none⟩ = some (.slice (some ⟨b, off, none⟩) L cn) ∧ W.cell? ⟨b2, off2 + k, none⟩ = some (.int .i64 (m : Int)) ∧ W.cell? ⟨b, off + m * 7, none⟩ = some (.int .i64 d.x) ∧ W.cell? ⟨b, off + m * 7 + 1, none⟩ = some (.int .i64 d.y) ∧ W.cell? ⟨b, off + m * 7 + 2, none⟩ = some (.int .i64 d.demand) ∧ W.cell? ⟨b, off + m * 7 + 3, none⟩ = some (.int .i64 d.ready) ∧ W.cell? ⟨b, off + m * 7 + 4, none⟩ = some (.int .i64 d.due) ∧ W.cell? ⟨b, off + m * 7 + 5, none⟩ = some (.int .i64 d.service) ∧ W.cell? ⟨b, off + m * 7 + 6, none⟩ = some (.int .i64 d.mate) ∧ RowS w x (.slice (some ⟨b, off, none⟩) L cn) (.slice am x.matrix.length cm) u6 k (tqz.map intV) W)
        ((go_split_ands; (first | exact rowS_nd HS.out.drew hbw2 hc hbw HDN.out | exact rowS_nd (HS.out.alloc _).drew hbw2 hc hbw HDN.out)))
        (fail)
      rename_i hh
      clear hh
      obtain ⟨V, hV⟩ : ∃ V, V = (wr.alloc (.cells #[Value.int .i64 d.x, .int .i64 d.y, .int .i64 d.demand, .int .i64 d.ready, .int .i64 d.due, .int .i64 d.service, .int .i64 d.mate] 70)).drew := ⟨_, rfl⟩
      have hV1 : NdRowS w x (.slice (some ⟨b, off, none⟩) L cn) (.slice am x.matrix.length cm) u6 k (tqz.map intV) wr.heap.size d 70 V := by rw [hV]; exact ⟨(HS.out.alloc _).drew, NdBox.new wr d 70⟩
      rw [← hV]
      clear hV
      go_wp2_with (fail)
      go_region_held3 (fun W => W.cell? ⟨w.heap.size, 0, none⟩ = some (.string x.name) ∧ W.cell? ⟨w.heap.size, 1, none⟩ = some (.int .i64 x.kind) ∧ W.cell? ⟨w.heap.size, 2, none⟩ = some (.int .i64 x.metric) ∧ W.cell? ⟨w.heap.size, 3, none⟩ = some (.int .i64 x.scale) ∧ W.cell? ⟨w.heap.size, 4, none⟩ = some (.int .i64 x.cap) ∧ W.cell? ⟨w.heap.size, 5, none⟩ = some (.int .i64 x.fleet) ∧ W.cell? ⟨w.heap.size, 6, none⟩ = some (.slice (some ⟨b, off, none⟩) L cn) ∧ W.cell? ⟨w.heap.size, 7, none⟩ = some (.slice am x.matrix.length cm) ∧ W.cell? ⟨b2, off2 + k, none⟩ = some (.int .i64 (m : Int)) ∧ NdRowS w x (.slice (some ⟨b, off, none⟩) L cn) (.slice am x.matrix.length cm) u6 k (tqz.map intV) wr.heap.size d 70 W)
        ((go_split_ands; (first | exact ndRowS_S (by assumption) hbw2 hc | exact ndRowS_S (NdRowS.drew (by assumption)) hbw2 hc | exact ndRowS_S (NdRowS.next (by assumption) (by assumption)) hbw2 hc)))
        ((go_at_call 58; (with_reducible refine (HWY.out _ (by go_split_ands; first | exact HX.out.next (NdRowS.row (by assumption)).below | exact HX.out.next (NdRowS.drew (by assumption)).row.below)).mono ?_); rintro e w3 ⟨rfl, hb3⟩))
      have T := (show _ ∧ _ ∧ _ ∧ _ ∧ _ ∧ _ ∧ _ ∧ _ ∧ _ ∧ NdRowS w x (.slice (some ⟨b, off, none⟩) L cn) (.slice am x.matrix.length cm) u6 k (tqz.map intV) wr.heap.size d 70 w3 by assumption).2.2.2.2.2.2.2.2.2
      have HT3 := Lib.hid T
      obtain ⟨d0', d1, d2, d3, d4, d5, d6⟩ := T.nd.cells
      have HNE : Hid (u6.ownBlock ≠ some wr.heap.size) := fun e => by have := (HS.out.row.lt _ e).2; omega
      have hs3 : w.heap.size + 1 ≤ w3.heap.size := T.row.box.lt
      have hk1 : (k : Int) ≤ 1000000 := by omega
      have hml : k + 1 ≤ maxLen := by unfold maxLen; omega
      have hml2 : (k + 1) * 8 ≤ 140737488355328 := by omega
      rename_i hh
      have HC := Lib.hid hc
      clear hh hV1 T HS hc HW HWY HNO HDN HD0 HD00 HUU HX HT
      by_cases hlt1 : tl < 0
      · by_cases hlt2 : ud < bg
        · have hif : Hid ((if tl < 0 ∧ ud < bg then (k : Int) else tl) = (k : Int)) := if_pos ⟨hlt1, hlt2⟩
          go_wp2_with (at_builtin; refine wpList_append_own _ rfl _ _ 23 rfl (w.heap.size + 1) 3 i0 (.int .i64 0) 1 8 Try.underlying23 HI.out hz0 hz1 hz2 rfl (by decide) _ _ _ rfl (HT3.out.row.row.alloc _) ⟨w3.heap.size, 0, none⟩ 1 1 [.int .i64 bg] rfl rfl (cells_one w3 _ _) (by simp [Value.oneCell']) hml hml2 (by simp; omega) ?_; intro v' w4 hown' hgrow _; have HR4 : Hid (RowS w x (.slice (some ⟨b, off, none⟩) L cn) (.slice am x.matrix.length cm) v' (k + 1) ((tqz ++ [bg]).map intV) w4) := (HT3.out.row.alloc _).grow hgrow (by rw [List.map_append]; exact hown'); have hN4 := (HT3.out.nd.next (fbelow_box w3 _)).grown hgrow HNE.out; obtain ⟨-, -, -, -, -, d5, -⟩ := hN4.cells; have hc4 := (HR4.out.below.cell (p := ⟨b2, off2 + k, none⟩) hbw2).trans HC.out; clear hown' hgrow hN4)
          go_roundw
          case rel => exact ⟨k + 1, by omega, by go_num, by rw [HE.out, HST.out]; simp only; rw [hif.out], by rw [HE.out, HST.out], by rw [HE.out, HST.out], by rw [HE.out, HST.out]; exact HR4.out⟩
          case measure => simp [intOf]; omega
        · have hif : Hid ((if tl < 0 ∧ ud < bg then (k : Int) else tl) = tl) := if_neg (fun h => hlt2 h.2)
          go_wp2_with (at_builtin; refine wpList_append_own _ rfl _ _ 23 rfl (w.heap.size + 1) 3 i0 (.int .i64 0) 1 8 Try.underlying23 HI.out hz0 hz1 hz2 rfl (by decide) _ _ _ rfl (HT3.out.row.row.alloc _) ⟨w3.heap.size, 0, none⟩ 1 1 [.int .i64 bg] rfl rfl (cells_one w3 _ _) (by simp [Value.oneCell']) hml hml2 (by simp; omega) ?_; intro v' w4 hown' hgrow _; have HR4 : Hid (RowS w x (.slice (some ⟨b, off, none⟩) L cn) (.slice am x.matrix.length cm) v' (k + 1) ((tqz ++ [bg]).map intV) w4) := (HT3.out.row.alloc _).grow hgrow (by rw [List.map_append]; exact hown'); have hN4 := (HT3.out.nd.next (fbelow_box w3 _)).grown hgrow HNE.out; obtain ⟨-, -, -, -, -, d5, -⟩ := hN4.cells; have hc4 := (HR4.out.below.cell (p := ⟨b2, off2 + k, none⟩) hbw2).trans HC.out; clear hown' hgrow hN4)
          go_roundw
          case rel => exact ⟨k + 1, by omega, by go_num, by rw [HE.out, HST.out]; simp only; rw [hif.out], by rw [HE.out, HST.out], by rw [HE.out, HST.out], by rw [HE.out, HST.out]; exact HR4.out⟩
          case measure => simp [intOf]; omega
      · have hif : Hid ((if tl < 0 ∧ ud < bg then (k : Int) else tl) = tl) := if_neg (fun h => hlt1 h.1)
        go_wp2_with (at_builtin; refine wpList_append_own _ rfl _ _ 23 rfl (w.heap.size + 1) 3 i0 (.int .i64 0) 1 8 Try.underlying23 HI.out hz0 hz1 hz2 rfl (by decide) _ _ _ rfl (HT3.out.row.row.alloc _) ⟨w3.heap.size, 0, none⟩ 1 1 [.int .i64 bg] rfl rfl (cells_one w3 _ _) (by simp [Value.oneCell']) hml hml2 (by simp; omega) ?_; intro v' w4 hown' hgrow _; have HR4 : Hid (RowS w x (.slice (some ⟨b, off, none⟩) L cn) (.slice am x.matrix.length cm) v' (k + 1) ((tqz ++ [bg]).map intV) w4) := (HT3.out.row.alloc _).grow hgrow (by rw [List.map_append]; exact hown'); have hN4 := (HT3.out.nd.next (fbelow_box w3 _)).grown hgrow HNE.out; obtain ⟨-, -, -, -, -, d5, -⟩ := hN4.cells; have hc4 := (HR4.out.below.cell (p := ⟨b2, off2 + k, none⟩) hbw2).trans HC.out; clear hown' hgrow hN4)
        go_roundw
        case rel => exact ⟨k + 1, by omega, by go_num, by rw [HE.out, HST.out]; simp only; rw [hif.out], by rw [HE.out, HST.out], by rw [HE.out, HST.out], by rw [HE.out, HST.out]; exact HR4.out⟩
        case measure => simp [intOf]; omega
    · obtain rfl : k = n := by omega
      have e : (timesF x (r.take k)) = timesF x r := by rw [List.take_of_length_le (by have := HN.out; omega)]
      have hol := timesF_length x r
      have hTB := timesF_bounds HG.out r HT.out
      rw [HN.out] at hTB hol
      rw [e] at HS hS ⊢
      have hwb := way_bounds HG.out hTB.pos HG.out.lo
      have hWY := fun W h => HW.out (timesF x r).pos 0 W h (by have := hTB.pos; have := HL.out; omega) (by omega)
      simp only [Int.natCast_zero] at hWY
      have HWY := Lib.hid hWY
      clear hWY
      have hTL : Hid (timesL x r = (timesF x r).out) := by unfold Hid timesL; rw [HT.out]; rfl
      obtain ⟨ud, q2, hud, p2⟩ := wrap_unit (x := x) (HG.out.due 0)
      have hLI : Hid (lateI x r = if (timesF x r).late < 0 ∧ ud < (timesF x r).now + way x (timesF x r).pos 0 then (k : Int) else (timesF x r).late) := by
        unfold Hid lateI back
        rw [if_neg (by rw [HN.out]; exact hr0), if_neg (by rw [HT.out]; decide), HN.out, hud]
        simp only [decide_eq_true_eq]
      rw [HUU.out, HD00.out] at q2
      have hnow := hTB.now
      clear hTB hud hS e
      generalize timesF x r = t at *
      obtain ⟨tn, tp, tl, tqz⟩ := t
      simp only at *
      generalize way x tp 0 = wy at *
      obtain ⟨c0, c1, c2, c3, c4, c5, c6, c7⟩ := HS.out.box.cells
      have HO2 : Hid (∀ W : World, W.ownsRow (w.heap.size + 1) 3 1 u6 k (tqz.map intV) → W.ownsRow (w.heap.size + 1) 3 1 u6 (timesL x r).length ((timesL x r).map intV)) := fun W h => by
        rw [hTL.out, hol]; exact h
      have hk1 : (k : Int) ≤ 1000000 := by omega
      by_cases hlt1 : tl < 0
      · by_cases hlt2 : ud < tn + wy
        · rw [if_pos ⟨hlt1, hlt2⟩] at hLI
          go_wp2_with (go_at_call 58; (with_reducible refine (HWY.out _ (HX.out.next HS.out.below)).mono ?_); rintro e w3 ⟨rfl, hb3⟩; have HS3 := Lib.hid (HS.out.next hb3); clear c0 c1 c2 c3 c4 c5 c6 c7; obtain ⟨c0, c1, c2, c3, c4, c5, c6, c7⟩ := HS3.out.box.cells; have D0 := HD0.out.below HS3.out.below hbw; have d4 := D0.due; clear D0)
          go_ret2
          exact ⟨_, ftret hLI.out.symm, HO2.out _ HS3.out.row, HS3.out.below⟩
        · rw [if_neg (fun h => hlt2 h.2)] at hLI
          go_wp2_with (go_at_call 58; (with_reducible refine (HWY.out _ (HX.out.next HS.out.below)).mono ?_); rintro e w3 ⟨rfl, hb3⟩; have HS3 := Lib.hid (HS.out.next hb3); clear c0 c1 c2 c3 c4 c5 c6 c7; obtain ⟨c0, c1, c2, c3, c4, c5, c6, c7⟩ := HS3.out.box.cells; have D0 := HD0.out.below HS3.out.below hbw; have d4 := D0.due; clear D0)
          go_ret2
          exact ⟨_, ftret hLI.out.symm, HO2.out _ HS3.out.row, HS3.out.below⟩
      · rw [if_neg (fun h => hlt1 h.1)] at hLI
        go_wp2_with (go_at_call 58; (with_reducible refine (HWY.out _ (HX.out.next HS.out.below)).mono ?_); rintro e w3 ⟨rfl, hb3⟩; have HS3 := Lib.hid (HS.out.next hb3); clear c0 c1 c2 c3 c4 c5 c6 c7; obtain ⟨c0, c1, c2, c3, c4, c5, c6, c7⟩ := HS3.out.box.cells; have D0 := HD0.out.below HS3.out.below hbw; have d4 := D0.due; clear D0)
        go_ret2
        exact ⟨_, ftret hLI.out.symm, HO2.out _ HS3.out.row, HS3.out.below⟩
theorem Try.Rtimes_own (x : Ins) (vn vm v : Value) (r : List Int) (w : World) (hx : HasIns w vn vm x) (hg : Fine x) (hl : r.length ≤ 1000000) (hv : HasInts w v r) :
    Calls Try.prog 42 #[insV x vn vm, v] w fun e w' => ∃ v', e = .returned (.tuple #[v', .int .i64 (lateI x r)]) ∧ w'.ownsRow (w.heap.size + 1) 3 1 v' (timesL x r).length ((timesL x r).map intV) ∧ Below w.heap.size w w' := by
  by_cases hr0 : r.length = 0
  · have hr : r = [] := List.length_eq_zero_iff.1 hr0
    subst hr
    obtain ⟨an, cn, rfl, _⟩ := hx.nodes.dat
    obtain ⟨am, cm, rfl, _⟩ := hx.matrix.dat
    obtain ⟨ar, cr, rfl⟩ := hv.len
    have HO0 : Hid (((w.alloc (.cells #[.string x.name, .int .i64 x.kind, .int .i64 x.metric, .int .i64 x.scale, .int .i64 x.cap, .int .i64 x.fleet, .slice an x.nodes.length cn, .slice am x.matrix.length cm] 40)).alloc (.cells #[] 3)).ownsRow (w.heap.size + 1) 3 1 (.slice (some ⟨w.heap.size + 1, 0, none⟩) 0 0) 0 []) := by
      have h := owns_empty1 (w.alloc (.cells #[.string x.name, .int .i64 x.kind, .int .i64 x.metric, .int .i64 x.scale, .int .i64 x.cap, .int .i64 x.fleet, .slice an x.nodes.length cn, .slice am x.matrix.length cm] 40)) 3
      unfold Hid; simpa using h
    have HR0 := Lib.hid ((fbelow_box w (.cells #[.string x.name, .int .i64 x.kind, .int .i64 x.metric, .int .i64 x.scale, .int .i64 x.cap, .int .i64 x.fleet, .slice an x.nodes.length cn, .slice am x.matrix.length cm] 40)).alloc (by simp) (.cells #[] 3))
    have hLI : Hid (lateI x [] = -1) := rfl
    unfold insV
    clear hx hg hv
    go_enter Try.func42, Try.ntmps42
    go_wp2
    go_ret2
    exact ⟨_, ftret hLI.out.symm, HO0.out, HR0.out⟩
  · cases hnb : nodesB x r with
    | true => exact Try.Rtimes_some x vn vm v r w hx hg hl hv hr0 hnb
    | false =>
      have hLI : Hid (lateI x r = 0) := by unfold Hid lateI; rw [if_neg hr0, if_pos hnb]
      have hTL : Hid (timesL x r = []) := by unfold Hid timesL; rw [hnb]; rfl
      have HX := Lib.hid hx
      have HQ : Hid (∀ W, HasIns W vn vm x → HasInts W v r → Calls Try.prog 43 #[insV x vn vm, v] W fun e w' => e = .returned (.bool false) ∧ Below W.heap.size W w') := fun W h k => hnb ▸ Try.rnodes_calls x vn vm v r W h hl k
      obtain ⟨an, cn, rfl, _⟩ := hx.nodes.dat
      obtain ⟨am, cm, rfl, _⟩ := hx.matrix.dat
      have HV := Lib.hid hv
      obtain ⟨ar, cr, rfl⟩ := hv.len
      have HO0 : Hid (((w.alloc (.cells #[.string x.name, .int .i64 x.kind, .int .i64 x.metric, .int .i64 x.scale, .int .i64 x.cap, .int .i64 x.fleet, .slice an x.nodes.length cn, .slice am x.matrix.length cm] 40)).alloc (.cells #[] 3)).ownsRow (w.heap.size + 1) 3 1 (.slice (some ⟨w.heap.size + 1, 0, none⟩) 0 0) 0 []) := by
        have h := owns_empty1 (w.alloc (.cells #[.string x.name, .int .i64 x.kind, .int .i64 x.metric, .int .i64 x.scale, .int .i64 x.cap, .int .i64 x.fleet, .slice an x.nodes.length cn, .slice am x.matrix.length cm] 40)) 3
        unfold Hid; simpa using h
      have HR0 := Lib.hid ((fbelow_box w (.cells #[.string x.name, .int .i64 x.kind, .int .i64 x.metric, .int .i64 x.scale, .int .i64 x.cap, .int .i64 x.fleet, .slice an x.nodes.length cn, .slice am x.matrix.length cm] 40)).alloc (by simp) (.cells #[] 3))
      obtain ⟨n, hn⟩ : ∃ n, r.length = n := ⟨_, rfl⟩
      rw [hn] at hr0 HV HQ ⊢
      have hne : ((n : Int) == 0) = false := beq_eq_false_iff_ne.2 (by omega)
      unfold insV at HQ ⊢
      clear hx hv hn hg hnb
      go_enter Try.func42, Try.ntmps42
      go_wp2_with (go_at_call 43; (with_reducible refine (HQ.out _ (HX.out.next HR0.out) (HV.out.next HR0.out)).mono ?_); rintro e w1 ⟨rfl, hb1⟩)
      go_ret2
      exact ⟨_, ftret hLI.out.symm, by rw [hTL.out]; exact fowns_next HO0.out hb1, HR0.out.trans (hb1.mono HR0.out.size)⟩
theorem Try.RTimes_any (x : Ins) (vn vm v : Value) (r : List Int) (w : World) (hx : HasIns w vn vm x) (hg : Fine x) (hl : r.length ≤ 1000000) (hv : HasInts w v r) :
    Calls Try.prog 21 #[insV x vn vm, v] w fun e w' => ∃ v', e = .returned (.tuple #[v', .bool (decide (lateI x r < 0))]) ∧ HasInts w' v' (timesL x r) ∧ Below w.heap.size w w' := by
  have HX := Lib.hid hx
  have HV := Lib.hid hv
  have HQ : Hid (∀ W, HasIns W vn vm x → HasInts W v r → Calls Try.prog 42 #[insV x vn vm, v] W fun e w' => ∃ v', e = .returned (.tuple #[v', .int .i64 (lateI x r)]) ∧ HasInts w' v' (timesL x r) ∧ Below W.heap.size W w') := fun W h k => (Try.Rtimes_own x vn vm v r W h hg hl k).mono fun _ _ ⟨v', h1, h2, h3⟩ => ⟨v', h1, hasInts_of_owns h2, h3⟩
  obtain ⟨an, cn, rfl, _⟩ := hx.nodes.dat
  obtain ⟨am, cm, rfl, _⟩ := hx.matrix.dat
  obtain ⟨ar, cr, rfl⟩ := hv.len
  have HR0 := Lib.hid (fbelow_box w (.cells #[.string x.name, .int .i64 x.kind, .int .i64 x.metric, .int .i64 x.scale, .int .i64 x.cap, .int .i64 x.fleet, .slice an x.nodes.length cn, .slice am x.matrix.length cm] 40))
  unfold insV at HQ ⊢
  clear hx hv hg
  generalize lateI x r = li at *
  go_enter Try.func21, Try.ntmps21
  go_wp2_with (go_at_call 42; (with_reducible refine (HQ.out _ (HX.out.next HR0.out) (HV.out.next HR0.out)).mono ?_); rintro e w1 ⟨v', rfl, hv1, hb1⟩)
  go_ret2
  exact ⟨_, rfl, hv1, HR0.out.trans (hb1.mono HR0.out.size)⟩
end Go.Proofs
/- The document's own has; the places of loads that are over. Conditions: a list of a million at most. -/
namespace Go.Proofs
open Go.RowKit Go.Shelf Go.Canon Go.Feas Go.Plans
attribute [local go_sem] Oper.semAt_some
set_option maxRecDepth 100000 in
theorem Try.rhas_calls (v : Value) (l : List Int) (s : Int) (w : World) (hl : l.length ≤ 1000000) (hv : HasInts w v l) :
    Calls Try.prog 56 #[v, .int .i64 s] w fun e w' => e = .returned (.bool (decide (s ∈ l))) ∧ Below w.heap.size w w' := by
  have HV := Lib.hid hv
  obtain ⟨ar, cr, rfl⟩ := hv.len
  obtain ⟨n, hn⟩ : ∃ n, l.length = n := ⟨_, rfl⟩
  rw [hn] at hl HV ⊢
  have HN := Lib.hid hn
  clear hv hn
  go_enter Try.func56, Try.ntmps56
  go_wp2
  go_loopw [5] (fun i wr => ∃ k : Nat, k ≤ n ∧ i = .int .i64 (k : Int) ∧ Hid (s ∉ l.take k) ∧ Below w.heap.size w wr) (fun i _ => n - (intOf i).toNat)
  case atStart => exact ⟨0, Nat.zero_le _, rfl, Lib.hid (by simp), Below.refl _ _⟩
  case round =>
    obtain ⟨k, hk, rfl, hT, hR⟩ := hrel
    by_cases hlt : k < n
    · obtain ⟨a, ha⟩ : ∃ a, l[k]? = some a := ⟨_, List.getElem?_eq_getElem (by have := HN.out; omega)⟩
      have hki : (k : Int) < (n : Int) := by omega
      obtain ⟨b, off, cap, e, _, _, hbw, hc⟩ := HV.out.atc ha
      rw [HN.out] at e
      injection e with h1 h2 h3
      subst h1
      subst h3
      clear h2
      have hc := (hR.cell (p := ⟨b, off + k, none⟩) hbw).trans hc
      by_cases h : a = s
      · have HF : Hid (decide (s ∈ l) = true) := decide_eq_true (h ▸ List.mem_of_getElem? ha)
        have hb : (a == s) = true := beq_iff_eq.2 h
        clear ha hT h
        go_wp2
        go_ret
        exact ⟨cret_is HF.out.symm, hR⟩
      · have HT : Hid (s ∉ l.take (k + 1)) := by
          unfold Hid
          rw [ptake_snoc ha, List.mem_append, not_or]
          exact ⟨hT.out, by simpa using fun e => h e.symm⟩
        have hb : (a == s) = false := beq_eq_false_iff_ne.2 h
        clear ha hT h
        go_wp2
        go_roundw
        case rel => exact ⟨k + 1, by omega, by go_num, HT, hR⟩
        case measure => simp [intOf]; omega
    · obtain rfl : k = n := by omega
      have HF : Hid (decide (s ∈ l) = false) := by
        have h := hT.out
        rw [List.take_of_length_le (by have := HN.out; omega)] at h
        exact decide_eq_false h
      go_wp2
      go_ret
      exact ⟨cret_is HF.out.symm, hR⟩
end Go.Proofs
