/- law11.goes: whether a route of customers is within the capacity, in time and in order. Conditions: an instance that may be relied on; stops that are nodes; a million at most. -/
import Derived.Test.YthgagmndefaniaaG29
import Derived.Test.YthgagmndefaniaaFeasMeansM
import Derived.Deep.Cut
import Derived.Deep.CutRange
namespace Go.Feas
open Go.Canon Go.Plans
/-- A step of a route goes. -/
def StepOk (x : Ins) (r : List Int) (j : Nat) (s : Int) : Prop := (Holds x (r.take j) s ∧ (x.kind ≠ 2 → InTime x (r.take j) s)) ∧ (x.kind = 4 → (0 < (nd x s).demand → (nd x s).mate ∈ r.drop (j + 1)) ∧ ((nd x s).demand < 0 → (nd x s).mate ∈ r.take j))
theorem goes_steps {x : Ins} {r : List Int} : Goes x r ↔ (∀ j s, r[j]? = some s → StepOk x r j s) ∧ (x.kind ≠ 2 → Home x r) :=
  ⟨fun h => ⟨fun j s hj => ⟨⟨h.holds j s hj, fun k => (h.time k).1 j s hj⟩, fun k => h.order k j s hj⟩, fun k => (h.time k).2⟩, fun h => ⟨fun j s hj => (h.1 j s hj).1.1, fun k => ⟨fun j s hj => (h.1 j s hj).1.2 k, h.2 k⟩, fun k j s hj => (h.1 j s hj).2 k⟩⟩
end Go.Feas
namespace Go.Proofs
open Go.RowKit Go.Shelf Go.Canon Go.Feas Go.Plans
attribute [local go_sem] Oper.semAt_some
attribute [local go_sem ↓] Go.wp_at_zero Go.wp_at_succ
theorem bxS_nd {w W : World} {x : Ins} {vn vm : Value} {b2 o2 b off : Nat} {s : Int} {d : Nd} (h : BxS w x vn vm W) (hb2 : b2 < w.heap.size) (hc : w.cell? ⟨b2, o2, none⟩ = some (.int .i64 s)) (hb : b < w.heap.size) (hd : NdAt w b off d) :
    W.cell? ⟨w.heap.size, 6, none⟩ = some vn ∧ W.cell? ⟨b2, o2, none⟩ = some (.int .i64 s) ∧ W.cell? ⟨b, off, none⟩ = some (.int .i64 d.x) ∧ W.cell? ⟨b, off + 1, none⟩ = some (.int .i64 d.y) ∧ W.cell? ⟨b, off + 2, none⟩ = some (.int .i64 d.demand) ∧ W.cell? ⟨b, off + 3, none⟩ = some (.int .i64 d.ready) ∧ W.cell? ⟨b, off + 4, none⟩ = some (.int .i64 d.due) ∧ W.cell? ⟨b, off + 5, none⟩ = some (.int .i64 d.service) ∧ W.cell? ⟨b, off + 6, none⟩ = some (.int .i64 d.mate) ∧ BxS w x vn vm W := by
  obtain ⟨d0, d1, d2, d3, d4, d5, d6⟩ := hd.below h.below hb
  exact ⟨h.box.c 6, (h.below.cell (p := ⟨b2, o2, none⟩) hb2).trans hc, d0, d1, d2, d3, d4, d5, d6, h⟩
/-- An instance and a node in their boxes, in whatever comes behind. -/
structure GoS (w : World) (x : Ins) (vn vm : Value) (D : Nat) (d : Nd) (W : World) : Prop where
  bx : BxS w x vn vm W
  nd : NdBox W D d 55
theorem GoS.next {w W W' : World} {x : Ins} {vn vm : Value} {D : Nat} {d : Nd} (h : GoS w x vn vm D d W) (hb : Below W.heap.size W W') : GoS w x vn vm D d W' := ⟨h.bx.next hb, h.nd.next hb⟩
theorem GoS.drew {w W : World} {x : Ins} {vn vm : Value} {D : Nat} {d : Nd} (h : GoS w x vn vm D d W) : GoS w x vn vm D d W.drew := ⟨h.bx.drew, h.nd⟩
theorem GoS.drewN {w W : World} {x : Ins} {vn vm : Value} {D : Nat} {d : Nd} (h : GoS w x vn vm D d W) (n : Nat) : GoS w x vn vm D d (W.drewN n) := h.next (cbelow_drewN (Below.refl _ _) n)
theorem goS_S {w W : World} {x : Ins} {vn vm : Value} {D b2 o2 : Nat} {s : Int} {d : Nd} (h : GoS w x vn vm D d W) (hb2 : b2 < w.heap.size) (hc : w.cell? ⟨b2, o2, none⟩ = some (.int .i64 s)) :
    W.cell? ⟨w.heap.size, 0, none⟩ = some (.string x.name) ∧ W.cell? ⟨w.heap.size, 1, none⟩ = some (.int .i64 x.kind) ∧ W.cell? ⟨w.heap.size, 2, none⟩ = some (.int .i64 x.metric) ∧ W.cell? ⟨w.heap.size, 3, none⟩ = some (.int .i64 x.scale) ∧ W.cell? ⟨w.heap.size, 4, none⟩ = some (.int .i64 x.cap) ∧ W.cell? ⟨w.heap.size, 5, none⟩ = some (.int .i64 x.fleet) ∧ W.cell? ⟨w.heap.size, 6, none⟩ = some vn ∧ W.cell? ⟨w.heap.size, 7, none⟩ = some vm ∧ W.cell? ⟨b2, o2, none⟩ = some (.int .i64 s) ∧ GoS w x vn vm D d W := by
  obtain ⟨c0, c1, c2, c3, c4, c5, c6, c7⟩ := h.bx.box.cells
  exact ⟨c0, c1, c2, c3, c4, c5, c6, c7, (h.bx.below.cell (p := ⟨b2, o2, none⟩) hb2).trans hc, h⟩
set_option maxRecDepth 100000 in
set_option maxHeartbeats 2000000 in
theorem Try.goes_calls (x : Ins) (vn vm v : Value) (r : List Int) (w : World) (hx : HasIns w vn vm x) (hg : Fine x) (hl : r.length ≤ 1000000) (hv : HasInts w v r) (hnb : nodesB x r = true) :
    Calls Try.prog 25 #[insV x vn vm, v] w fun e w' => ∃ f, e = .returned (.bool f) ∧ (f = true ↔ Goes x r) ∧ Below w.heap.size w w' := by
  have HX := Lib.hid hx
  have HU := Lib.hid fun W h => Try.Unit_calls x vn vm W h
  have HW := Lib.hid fun i j W h hi hj => Try.Between_calls x vn vm i j W h hg hi hj
  obtain ⟨b, off, cn, rfl, hlc, hcm, hNo⟩ := hx.all hg.lo
  obtain ⟨am, cm, rfl, _⟩ := hx.matrix.dat
  have HV := Lib.hid hv
  obtain ⟨ar, cr, rfl⟩ := hv.len
  obtain ⟨n, hn⟩ : ∃ n, r.length = n := ⟨_, rfl⟩
  rw [hn] at hl HV ⊢
  have HN := Lib.hid hn
  obtain ⟨L, hL⟩ : ∃ L, x.nodes.length = L := ⟨_, rfl⟩
  have HL := Lib.hid hL
  have HNO := Lib.hid fun i hi => nodesAt_nd hNo (i := i) hi
  have hbw := hNo.1
  have hlo := hg.lo
  have HD0 : Hid (NdAt w b off (at' x 0)) := by have h := nodesAt_nd hNo (i := 0) hg.lo; rw [Nat.zero_mul, Nat.add_zero] at h; exact h
  rw [hL] at HX HU HW hlo ⊢
  have hL0 : (0 : Int) < (L : Int) := by omega
  have hL00 : 0 < L := hlo
  have HG := Lib.hid hg
  have HT := Lib.hid hnb
  unfold insV at HU HW ⊢
  obtain ⟨u0, w0, hu0, b0⟩ := wrap_unit (x := x) (hg.ready 0)
  obtain ⟨ue, we, hue, be⟩ := wrap_unit (x := x) (hg.due 0)
  have HST : Hid ((tstart x).now = unit x * (at' x 0).ready) := rfl
  have hub := unit_bounds x
  have HBK : Hid (∀ q, back x (timesF x q) = decide (unit x * (at' x 0).due < (timesF x q).now + way x (timesF x q).pos 0)) := fun q => rfl
  obtain ⟨uu, huu⟩ : ∃ uu, unit x = uu := ⟨_, rfl⟩
  have HKI := Lib.hid hg.kind
  clear hx hv hn hL hg hNo hnb
  rw [hu0] at HST
  rw [hue] at HBK
  rw [huu] at HU w0 we hub
  have HUU := Lib.hid huu
  clear huu hu0 hue
  generalize hd0 : at' x 0 = d0 at HD0 w0 we
  clear hd0
  generalize x.matrix.length = M at *
  have HB0 : Hid (BxS w x (.slice (some ⟨b, off, none⟩) L cn) (.slice am M cm) (w.alloc (.cells #[.string x.name, .int .i64 x.kind, .int .i64 x.metric, .int .i64 x.scale, .int .i64 x.cap, .int .i64 x.fleet, .slice (some ⟨b, off, none⟩) L cn, .slice am M cm] 25))) := ⟨InsBox.new w x _ _ 25, fbelow_box w _⟩
  go_enter Try.func25, Try.ntmps25
  go_upto_region 4 with (go_at_call 38; (with_reducible refine (HU.out _ (HX.out.next HB0.out.below)).mono ?_); rintro e w1 ⟨rfl, hb1⟩; have HB1 := Lib.hid (HB0.out.next hb1); obtain ⟨c0, c1, c2, c3, c4, c5, c6, c7⟩ := HB1.out.box.cells; obtain ⟨z0, z1, z2, z3, z4, z5, z6⟩ := HD0.out.below HB1.out.below hbw; clear hb1)
  clear HB0 HU c0 c1 c2 c3 c4 c5 c6 c7 z0 z1 z2 z3 z4 z5 z6
  have HW0 := Lib.hid w0
  clear w0
  go_wp2_with (fail)
  go_loopw [5, 7, 8, 9] (fun ld nw ps i wr => ∃ k : Nat, k ≤ n ∧ i = .int .i64 (k : Int) ∧ ld = .int .i64 (loadsF x (r.take k)).1 ∧ nw = .int .i64 (timesF x (r.take k)).now ∧ ps = .int .i64 ((timesF x (r.take k)).pos : Int) ∧ Hid (∀ j s, j < k → r[j]? = some s → StepOk x r j s) ∧ BxS w x (.slice (some ⟨b, off, none⟩) L cn) (.slice am M cm) wr) (fun _ _ _ i _ => n - (intOf i).toNat)
  case atStart => exact ⟨0, Nat.zero_le _, rfl, rfl, by show _ = Value.int .i64 (tstart x).now; rw [HST.out, HW0.out], rfl, Lib.hid (fun j s h => by omega), HB1.out⟩
  case round =>
    obtain ⟨k, hk, rfl, rfl, rfl, rfl, hOK, hS⟩ := hrel
    have HS := Lib.hid hS
    clear HB1 hS
    by_cases hlt : k < n
    · obtain ⟨s, hs⟩ : ∃ s, r[k]? = some s := ⟨_, List.getElem?_eq_getElem (by have := HN.out; omega)⟩
      have hki : (k : Int) < (n : Int) := by omega
      have HSK := Lib.hid hs
      obtain ⟨b2, off2, cap, e, _, _, hbw2, hc⟩ := HV.out.atc hs
      rw [HN.out] at e
      injection e with h1 h2 h3
      subst h1
      subst h3
      clear h2
      have hsn := nodeB_lt (nodesB_at HT.out hs)
      have HE := Lib.hid (by rw [ptake_snoc hs, timesF_snoc] : timesF x (r.take (k + 1)) = timeStep x (timesF x (r.take k)) s)
      have HEL := Lib.hid (by rw [ptake_snoc hs, loadsF_snoc] : loadsF x (r.take (k + 1)) = loadStep x (loadsF x (r.take k)) s)
      have hTB := timesF_bounds HG.out (r.take k) (nodesB_sub HT.out k)
      have hlb := loadsF_bounds HG.out (r.take k)
      rw [List.length_take, Nat.min_eq_left (by have := HN.out; omega)] at hTB hlb
      have hbg := begins_bounds HG.out hTB (nodesB_at HT.out hs)
      obtain ⟨m, rfl⟩ : ∃ m : Nat, s = (m : Int) := ⟨s.toNat, by omega⟩
      simp only [Int.toNat_natCast] at hsn
      have hwb := way_bounds HG.out hTB.pos hsn.2.1
      have HWY := Lib.hid fun W h => HW.out (timesF x (r.take k)).pos m W h (by have := hTB.pos; have := HL.out; omega) (by have := HL.out; omega)
      rw [HL.out] at hsn
      have hmL := hsn.2.2
      have HDN := Lib.hid (HNO.out m (by have := HL.out; omega))
      have hdem := HG.out.demand m
      obtain ⟨ur, q1, hur, p1⟩ := wrap_unit (x := x) (HG.out.ready m)
      obtain ⟨ud, q2, hud, p2⟩ := wrap_unit (x := x) (HG.out.due m)
      obtain ⟨us, q3, hus, p3⟩ := wrap_unit (x := x) (HG.out.service m)
      have hnow := hTB.now
      have HBG : Hid (begins x (timesF x (r.take k)) (m : Int) = max ((timesF x (r.take k)).now + way x (timesF x (r.take k)).pos m) ur) := by
        unfold Hid begins nd; simp only [Int.toNat_natCast]; rw [hur]
      have HNW : Hid ((timesF x (r.take (k + 1))).now = begins x (timesF x (r.take k)) (m : Int) + us) := by
        rw [HE.out]; show begins x (timesF x (r.take k)) (m : Int) + unit x * (nd x (m : Int)).service = _
        unfold nd; rw [Int.toNat_natCast, hus]
      have HPS : Hid (((timesF x (r.take (k + 1))).pos : Int) = (m : Int)) := by
        rw [HE.out]; show (((m : Int).toNat : Nat) : Int) = (m : Int); simp
      have HLD : Hid ((loadsF x (r.take (k + 1))).1 = (loadsF x (r.take k)).1 + (at' x m).demand) := by
        rw [HEL.out]; show (loadsF x (r.take k)).1 + (nd x (m : Int)).demand = _
        unfold nd; rw [Int.toNat_natCast]
      have HOH : Hid (Holds x (r.take k) (m : Int) ↔ ¬ x.cap < (loadsF x (r.take k)).1 + (at' x m).demand ∧ ¬ (loadsF x (r.take k)).1 + (at' x m).demand < 0) := by
        unfold Hid Holds overB nd
        rw [Int.toNat_natCast, Bool.or_eq_false_iff, decide_eq_false_iff_not, decide_eq_false_iff_not]
      have HOT : Hid (InTime x (r.take k) (m : Int) ↔ ¬ ud < begins x (timesF x (r.take k)) (m : Int)) := by
        unfold Hid InTime nd
        rw [Int.toNat_natCast, hud]; exact Int.not_lt.symm
      have HOM : Hid (∀ P : Prop, P → True) := fun _ _ => trivial
      have hnd : nd x (m : Int) = at' x m := by unfold nd; rw [Int.toNat_natCast]
      have HSO : Hid (StepOk x r k (m : Int) ↔ (Holds x (r.take k) (m : Int) ∧ (x.kind ≠ 2 → InTime x (r.take k) (m : Int))) ∧ (x.kind = 4 → (0 < (at' x m).demand → (at' x m).mate ∈ r.drop (k + 1)) ∧ ((at' x m).demand < 0 → (at' x m).mate ∈ r.take k))) := by
        unfold Hid StepOk; rw [hnd]
      rw [HUU.out] at q1 q2 q3
      rw [HBG.out] at HNW HOT hbg
      clear hTB hs hur hud hus hnd HBG HOM HW HE HEL
      generalize hls : loadsF x (r.take k) = ls at *
      obtain ⟨l1, l2⟩ := ls
      generalize hts : timesF x (r.take k) = t at *
      obtain ⟨tn, tp, tl, tq⟩ := t
      simp only at *
      clear hls hts
      generalize way x tp m = wy at *
      generalize hdd : at' x m = d at *
      have HW2 := Lib.hid q1
      have HW3 := Lib.hid q2
      have HW4 := Lib.hid q3
      clear hdd
      go_wp2_with (fail)
      go_region_held3 (fun W => W.cell? ⟨w.heap.size, 6, none⟩ = some (.slice (some ⟨b, off, none⟩) L cn) ∧ W.cell? ⟨b2, off2 + k, none⟩ = some (.int .i64 (m : Int)) ∧ W.cell? ⟨b, off + m * 7, none⟩ = some (.int .i64 d.x) ∧ W.cell? ⟨b, off + m * 7 + 1, none⟩ = some (.int .i64 d.y) ∧ W.cell? ⟨b, off + m * 7 + 2, none⟩ = some (.int .i64 d.demand) ∧ W.cell? ⟨b, off + m * 7 + 3, none⟩ = some (.int .i64 d.ready) ∧ W.cell? ⟨b, off + m * 7 + 4, none⟩ = some (.int .i64 d.due) ∧ W.cell? ⟨b, off + m * 7 + 5, none⟩ = some (.int .i64 d.service) ∧ W.cell? ⟨b, off + m * 7 + 6, none⟩ = some (.int .i64 d.mate) ∧ BxS w x (.slice (some ⟨b, off, none⟩) L cn) (.slice am M cm) W)
        ((go_split_ands; (first | exact bxS_nd HS.out.drew hbw2 hc hbw HDN.out | exact bxS_nd (HS.out.alloc _).drew hbw2 hc hbw HDN.out)))
        (fail)
      rename_i hh
      clear hh
      obtain ⟨D, hD⟩ : ∃ D, D = wr.heap.size := ⟨_, rfl⟩
      obtain ⟨V, hV⟩ : ∃ V, V = (wr.alloc (.cells #[Value.int .i64 d.x, .int .i64 d.y, .int .i64 d.demand, .int .i64 d.ready, .int .i64 d.due, .int .i64 d.service, .int .i64 d.mate] 55)).drew := ⟨_, rfl⟩
      have HV1 : Hid (GoS w x (.slice (some ⟨b, off, none⟩) L cn) (.slice am M cm) D d V) := by rw [hV, hD]; exact ⟨(HS.out.alloc _).drew, NdBox.new wr d 55⟩
      rw [← hV, ← hD]
      clear hV hD HS
      obtain ⟨d0c, d1c, d2c, d3c, d4c, d5c, d6c⟩ := HV1.out.nd.cells
      clear q1 q2 q3 d0c d1c d5c d6c
      have hk6 : (k : Int) ≤ 1000000 := by omega
      go_upto_region 10 with (fail)
      go_region_held3 (fun W => W.cell? ⟨w.heap.size, 0, none⟩ = some (.string x.name) ∧ W.cell? ⟨w.heap.size, 1, none⟩ = some (.int .i64 x.kind) ∧ W.cell? ⟨w.heap.size, 2, none⟩ = some (.int .i64 x.metric) ∧ W.cell? ⟨w.heap.size, 3, none⟩ = some (.int .i64 x.scale) ∧ W.cell? ⟨w.heap.size, 4, none⟩ = some (.int .i64 x.cap) ∧ W.cell? ⟨w.heap.size, 5, none⟩ = some (.int .i64 x.fleet) ∧ W.cell? ⟨w.heap.size, 6, none⟩ = some (.slice (some ⟨b, off, none⟩) L cn) ∧ W.cell? ⟨w.heap.size, 7, none⟩ = some (.slice am M cm) ∧ W.cell? ⟨b2, off2 + k, none⟩ = some (.int .i64 (m : Int)) ∧ GoS w x (.slice (some ⟨b, off, none⟩) L cn) (.slice am M cm) D d W)
        ((go_split_ands; (first | exact goS_S HV1.out.drew hbw2 hc | exact goS_S (by assumption) hbw2 hc | exact goS_S (GoS.next HV1.out.drew (by assumption)) hbw2 hc | exact goS_S (GoS.drew (by assumption)) hbw2 hc | exact goS_S (GoS.next (by assumption) (by assumption)) hbw2 hc)))
        ((go_at_call 44; (with_reducible refine (HWY.out _ (HX.out.next HV1.out.drew.bx.below)).mono ?_); rintro e w6 ⟨rfl, hb6⟩))
      have HS6 := Lib.hid (show w6.cell? ⟨w.heap.size, 0, none⟩ = some (.string x.name) ∧ w6.cell? ⟨w.heap.size, 1, none⟩ = some (.int .i64 x.kind) ∧ w6.cell? ⟨w.heap.size, 2, none⟩ = some (.int .i64 x.metric) ∧ w6.cell? ⟨w.heap.size, 3, none⟩ = some (.int .i64 x.scale) ∧ w6.cell? ⟨w.heap.size, 4, none⟩ = some (.int .i64 x.cap) ∧ w6.cell? ⟨w.heap.size, 5, none⟩ = some (.int .i64 x.fleet) ∧ w6.cell? ⟨w.heap.size, 6, none⟩ = some (.slice (some ⟨b, off, none⟩) L cn) ∧ w6.cell? ⟨w.heap.size, 7, none⟩ = some (.slice am M cm) ∧ w6.cell? ⟨b2, off2 + k, none⟩ = some (.int .i64 (m : Int)) ∧ GoS w x (.slice (some ⟨b, off, none⟩) L cn) (.slice am M cm) D d w6 by assumption).2.2.2.2.2.2.2.2.2
      rename_i hh
      clear hh hb6 d2c d3c d4c hlb HWY
      obtain ⟨c0, c1, c2, c3, c4, c5, c6, c7, hc6, -⟩ := goS_S HS6.out hbw2 hc
      obtain ⟨d0c, d1c, d2c, d3c, d4c, d5c, d6c⟩ := HS6.out.nd.cells
      go_upto_region 12 with (fail)
      rw [HW2.out]
      generalize l1 + d.demand = ld at *
      generalize max (tn + wy) ur = bg at *
      go_cut [84] from 64 to 84 (fun t wx => ∃ f, t = .bool f ∧ (f = false ↔ ((ld ≤ x.cap ∧ 0 ≤ ld) ∧ (x.kind ≠ 2 → bg ≤ ud))) ∧ w6 = wx)
      case first =>
        clear c0 c2 c3 c5 c6 c7 hc6 d0c d1c d2c d3c d5c d6c hc
        by_cases h1 : ld < 0
        · go_wp2
          go_meet
          exact ⟨true, rfl, ⟨nofun, fun ⟨⟨_, h⟩, _⟩ => by omega⟩, rfl⟩
        · by_cases h2 : x.cap < ld
          · go_wp2
            go_meet
            exact ⟨true, rfl, ⟨nofun, fun ⟨⟨h, _⟩, _⟩ => by omega⟩, rfl⟩
          · by_cases k2 : x.kind = 2
            · have kb : (x.kind != 2) = false := by rw [k2]; rfl
              have K2 := Lib.hid k2
              clear k2
              go_wp2
              go_meet
              exact ⟨false, rfl, ⟨fun _ => ⟨⟨by omega, by omega⟩, fun h => absurd K2.out h⟩, fun _ => rfl⟩, rfl⟩
            · have kb : (x.kind != 2) = true := bne_iff_ne.2 k2
              have K2 := Lib.hid k2
              clear k2
              by_cases h3 : wrap64 (uu * d.due) < bg
              · go_wp2
                go_meet
                exact ⟨true, rfl, ⟨nofun, fun ⟨_, h⟩ => by have := h K2.out; have := HW3.out; omega⟩, rfl⟩
              · go_wp2
                go_meet
                exact ⟨false, rfl, ⟨fun _ => ⟨⟨by omega, by omega⟩, fun _ => by have := HW3.out; omega⟩, fun _ => rfl⟩, rfl⟩
      case rest =>
      obtain ⟨f, rfl, hf, rfl⟩ := hcut
      have HF := Lib.hid hf
      clear hf
      go_upto_if 84 with (fail)
      cases f with
      | true =>
        go_wp2_with (fail)
        refine ⟨rfl, _, results_tmp rfl _ _ _, false, rfl, ⟨nofun, fun hG => ?_⟩, HS6.out.bx.below⟩
        have h := HSO.out.1 ((goes_steps.1 hG).1 k _ HSK.out)
        have h2 := HF.out.2 ⟨HOH.out.1 h.1.1, fun k2 => HOT.out.1 (h.1.2 k2)⟩
        cases h2
      | false =>
        have hf2 := HF.out.1 rfl
        have HHT : Hid (Holds x (r.take k) (m : Int) ∧ (x.kind ≠ 2 → InTime x (r.take k) (m : Int))) := ⟨HOH.out.2 hf2.1, fun k2 => HOT.out.2 (hf2.2 k2)⟩
        clear hf2 HF HOH HOT
        go_upto_region 16 with (fail)
        have HT7 : wrap64 (bg + wrap64 (uu * d.service)) = (timesF x (r.take (k + 1))).now := by
          have h := HW4.out
          rw [h, HNW.out]
          unfold wrap64; omega
        rw [HT7]
        clear HT7 c0 c2 c3 c4 c5 c6 c7 hc6 d0c d1c d3c d4c d5c
        obtain ⟨tn2, htn2⟩ : ∃ z, (timesF x (r.take (k + 1))).now = z := ⟨_, rfl⟩
        rw [htn2]
        have HTN := Lib.hid htn2
        clear htn2
        obtain ⟨W7, hW7⟩ : ∃ W7, W7 = w6 := ⟨_, rfl⟩
        rw [← hW7] at c1 d2c d6c ⊢
        have HS7 : Hid (GoS w x (.slice (some ⟨b, off, none⟩) L cn) (.slice am M cm) D d W7) := by rw [hW7]; exact HS6.out
        clear hW7 HS6 HV1
        go_wp2_with (fail)
        go_loopw [13, 14] (fun a j wr => ∃ q : Nat, q ≤ k ∧ j = .int .i64 (q : Int) ∧ a = .bool (decide (d.mate ∈ r.take q)) ∧ GoS w x (.slice (some ⟨b, off, none⟩) L cn) (.slice am M cm) D d wr) (fun _ j _ => k - (intOf j).toNat)
        case atStart => exact ⟨0, Nat.zero_le _, rfl, by simp, HS7.out⟩
        case round =>
          obtain ⟨q, hq, rfl, rfl, hS⟩ := hrel
          have HS := Lib.hid hS
          clear hS c1 d2c d6c
          obtain ⟨c0, c1, c2, c3, c4, c5, c6, c7, -, -⟩ := goS_S HS.out hbw2 hc
          obtain ⟨d0c, d1c, d2c, d3c, d4c, d5c, d6c⟩ := HS.out.nd.cells
          clear c0 c2 c3 c4 c5 c6 c7 d0c d1c d3c d4c d5c
          by_cases hqk : q < k
          · have hqi : (q : Int) < (k : Int) := by omega
            obtain ⟨z, hz⟩ : ∃ z, r[q]? = some z := ⟨_, List.getElem?_eq_getElem (by have := HN.out; omega)⟩
            obtain ⟨b3, off3, cap3, e, _, _, _, hcz⟩ := HV.out.atc hz
            injection e with h1 h2 h3
            injection h1 with h1
            injection h1 with h4 h5
            subst h4
            subst h5
            clear h2 h3
            have hc1 := (HS.out.bx.below.cell (p := ⟨b2, off2 + q, none⟩) hbw2).trans hcz
            have HM : Hid (decide (d.mate ∈ r.take (q + 1)) = (decide (d.mate ∈ r.take q) || z == d.mate)) := by
              unfold Hid
              rw [ptake_snoc hz]
              have h : (d.mate ∈ r.take q ++ [z]) ↔ (d.mate ∈ r.take q ∨ z = d.mate) := by rw [List.mem_append, List.mem_singleton, eq_comm (a := z)]
              rw [decide_eq_decide.2 h, Bool.decide_or]; rfl
            have hqn : (q : Int) < (n : Int) := by omega
            clear hz hcz
            cases hm : decide (d.mate ∈ r.take q) with
            | true =>
              rw [hm] at HM
              clear hm
              go_wp2_with (fail)
              go_quiet (fail)
              go_wp2
              go_roundw
              case rel => exact ⟨q + 1, by omega, by go_num, by rw [HM.out]; rfl, HS.out.drewN _⟩
              case measure => simp [intOf]; omega
            | false =>
              rw [hm, Bool.false_or] at HM
              clear hm
              cases he : (z == d.mate) with
              | true =>
                rw [he] at HM
                go_wp2_with (fail)
                go_quiet (fail)
                go_wp2
                go_roundw
                case rel => exact ⟨q + 1, by omega, by go_num, by rw [HM.out], HS.out.drewN _⟩
                case measure => simp [intOf]; omega
              | false =>
                rw [he] at HM
                go_wp2_with (fail)
                go_quiet (fail)
                go_wp2
                go_roundw
                case rel => exact ⟨q + 1, by omega, by go_num, by rw [HM.out], HS.out.drewN _⟩
                case measure => simp [intOf]; omega
          · obtain rfl : q = k := by omega
            clear hqk
            obtain ⟨A, hA⟩ : ∃ A, decide (d.mate ∈ r.take q) = A := ⟨_, rfl⟩
            rw [hA]
            have HA := Lib.hid hA
            clear hA
            go_wp2_with (fail)
            go_loopw [15, 16] (fun a j wr => ∃ z : Nat, q + 1 ≤ z ∧ z ≤ n ∧ j = .int .i64 (z : Int) ∧ a = .bool (decide (d.mate ∈ (r.take z).drop (q + 1))) ∧ GoS w x (.slice (some ⟨b, off, none⟩) L cn) (.slice am M cm) D d wr) (fun _ j _ => n - (intOf j).toNat)
            case atStart => exact ⟨q + 1, Nat.le_refl _, by omega, by go_num, by simp, HS.out⟩
            case round =>
              obtain ⟨p, hpq, hp, rfl, rfl, hS⟩ := hrel
              have HS3 := Lib.hid hS
              clear hS c1 d2c d6c HS
              obtain ⟨c0, c1, c2, c3, c4, c5, c6, c7, -, -⟩ := goS_S HS3.out hbw2 hc
              obtain ⟨d0c, d1c, d2c, d3c, d4c, d5c, d6c⟩ := HS3.out.nd.cells
              clear c0 c2 c3 c4 c5 c6 c7 d0c d1c d3c d4c d5c
              by_cases hpn : p < n
              · have hpi : (p : Int) < (n : Int) := by omega
                obtain ⟨z, hz⟩ : ∃ z, r[p]? = some z := ⟨_, List.getElem?_eq_getElem (by have := HN.out; omega)⟩
                obtain ⟨b3, off3, cap3, e, _, _, _, hcz⟩ := HV.out.atc hz
                injection e with h1 h2 h3
                injection h1 with h1
                injection h1 with h4 h5
                subst h4
                subst h5
                clear h2 h3
                have hc1 := (HS3.out.bx.below.cell (p := ⟨b2, off2 + p, none⟩) hbw2).trans hcz
                have HM : Hid (decide (d.mate ∈ (r.take (p + 1)).drop (q + 1)) = (decide (d.mate ∈ (r.take p).drop (q + 1)) || z == d.mate)) := by
                  unfold Hid
                  rw [ptake_snoc hz, List.drop_append_of_le_length (by rw [List.length_take, HN.out]; omega)]
                  have h : (d.mate ∈ (r.take p).drop (q + 1) ++ [z]) ↔ (d.mate ∈ (r.take p).drop (q + 1) ∨ z = d.mate) := by rw [List.mem_append, List.mem_singleton, eq_comm (a := z)]
                  rw [decide_eq_decide.2 h, Bool.decide_or]; rfl
                clear hz hcz
                cases hm : decide (d.mate ∈ (r.take p).drop (q + 1)) with
                | true =>
                  rw [hm] at HM
                  clear hm
                  go_wp2_with (fail)
                  go_quiet (fail)
                  go_wp2
                  go_roundw
                  case rel => exact ⟨p + 1, by omega, by omega, by go_num, by rw [HM.out]; rfl, HS3.out.drewN _⟩
                  case measure => simp [intOf]; omega
                | false =>
                  rw [hm, Bool.false_or] at HM
                  clear hm
                  cases he : (z == d.mate) with
                  | true =>
                    rw [he] at HM
                    go_wp2_with (fail)
                    go_quiet (fail)
                    go_wp2
                    go_roundw
                    case rel => exact ⟨p + 1, by omega, by omega, by go_num, by rw [HM.out], HS3.out.drewN _⟩
                    case measure => simp [intOf]; omega
                  | false =>
                    rw [he] at HM
                    go_wp2_with (fail)
                    go_quiet (fail)
                    go_wp2
                    go_roundw
                    case rel => exact ⟨p + 1, by omega, by omega, by go_num, by rw [HM.out], HS3.out.drewN _⟩
                    case measure => simp [intOf]; omega
              · obtain rfl : p = n := by omega
                clear hpn
                obtain ⟨B, hB⟩ : ∃ B, decide (d.mate ∈ (r.take p).drop (q + 1)) = B := ⟨_, rfl⟩
                rw [hB]
                rw [List.take_of_length_le (by have := HN.out; omega)] at hB
                have HB := Lib.hid hB
                clear hB
                have HTE : Hid ((B = true ↔ d.mate ∈ r.drop (q + 1)) ∧ (A = true ↔ d.mate ∈ r.take q)) := ⟨by rw [← HB.out, decide_eq_true_iff], by rw [← HA.out, decide_eq_true_iff]⟩
                go_upto_region 26 with (fail)
                obtain ⟨W9, hW9⟩ : ∃ W9, W9 = wr := ⟨_, rfl⟩
                have HS9 : Hid (GoS w x (.slice (some ⟨b, off, none⟩) L cn) (.slice am M cm) D d W9) := by rw [hW9]; exact HS3.out
                rw [← hW9] at c1 d2c d6c ⊢
                clear hW9 HS3
                go_cut [148] from 128 to 148 (fun t wx => ∃ f, t = .bool f ∧ (f = false ↔ (x.kind = 4 → (0 < d.demand → B = true) ∧ (d.demand < 0 → A = true))) ∧ W9 = wx)
                case first =>
                  by_cases k4 : x.kind = 4
                  · have kb : (x.kind == 4) = true := beq_iff_eq.2 k4
                    have K4 := Lib.hid k4
                    clear k4
                    by_cases g1 : 0 < d.demand
                    · have g2 : ¬ d.demand < 0 := by omega
                      have G := Lib.hid g1
                      cases B with
                      | true =>
                        go_wp2
                        go_meet
                        exact ⟨false, rfl, ⟨fun _ _ => ⟨fun _ => (by first | rfl | trivial), fun h => by omega⟩, fun _ => rfl⟩, rfl⟩
                      | false =>
                        go_wp2
                        go_meet
                        exact ⟨true, rfl, ⟨nofun, fun h => absurd ((h K4.out).1 G.out) (by simp)⟩, rfl⟩
                    · by_cases g2 : d.demand < 0
                      · have G := Lib.hid g2
                        cases A with
                        | true =>
                          go_wp2
                          go_meet
                          exact ⟨false, rfl, ⟨fun _ _ => ⟨fun h => by omega, fun _ => (by first | rfl | trivial)⟩, fun _ => rfl⟩, rfl⟩
                        | false =>
                          go_wp2
                          go_meet
                          exact ⟨true, rfl, ⟨nofun, fun h => absurd ((h K4.out).2 G.out) (by simp)⟩, rfl⟩
                      · go_wp2
                        go_meet
                        exact ⟨false, rfl, ⟨fun _ _ => ⟨fun h => by omega, fun h => by omega⟩, fun _ => rfl⟩, rfl⟩
                  · have kb : (x.kind == 4) = false := beq_eq_false_iff_ne.2 k4
                    have K4 := Lib.hid k4
                    clear k4
                    go_wp2
                    go_meet
                    exact ⟨false, rfl, ⟨fun _ h => absurd h K4.out, fun _ => rfl⟩, rfl⟩
                case rest =>
                obtain ⟨f, rfl, hf, rfl⟩ := hcut
                have HF := Lib.hid hf
                clear hf
                go_upto_if 148 with (fail)
                cases f with
                | true =>
                  go_wp2_with (fail)
                  refine ⟨rfl, _, results_tmp rfl _ _ _, false, rfl, ⟨nofun, fun hG => ?_⟩, HS9.out.bx.below⟩
                  have h := HSO.out.1 ((goes_steps.1 hG).1 q _ HSK.out)
                  have h2 := HF.out.2 fun k4 => ⟨fun g => HTE.out.1.2 ((h.2 k4).1 g), fun g => HTE.out.2.2 ((h.2 k4).2 g)⟩
                  cases h2
                | false =>
                  have HNX : Hid (StepOk x r q (m : Int)) := HSO.out.2 ⟨HHT.out, fun k4 => ⟨fun g => HTE.out.1.1 ((HF.out.1 rfl k4).1 g), fun g => HTE.out.2.1 ((HF.out.1 rfl k4).2 g)⟩⟩
                  go_wp2_with (fail)
                  go_roundw
                  case rel =>
                    refine ⟨q + 1, by omega, by go_num, by rw [HLD.out], by rw [HTN.out], by rw [HPS.out], Lib.hid (fun j s hj hs => ?_), HS9.out.bx⟩
                    by_cases e : j < q
                    · exact hOK.out j s e hs
                    · obtain rfl : j = q := by omega
                      obtain rfl : s = (m : Int) := Option.some.inj (hs.symm.trans HSK.out)
                      exact HNX.out
                  case measure => simp [intOf]; omega
    · obtain rfl : k = n := by omega
      rw [List.take_of_length_le (by have := HN.out; omega)]
      have HSG : Hid (∀ j s, r[j]? = some s → StepOk x r j s) := fun j s hs => hOK.out j s (by
        have h : j < r.length := (List.getElem?_eq_some_iff.1 hs).1
        have := HN.out
        omega) hs
      have hTB := timesF_bounds HG.out r HT.out
      rw [HN.out] at hTB
      have hwb := way_bounds HG.out hTB.pos (by have := HL.out; omega : 0 < x.nodes.length)
      have HWY := Lib.hid fun W h => HW.out (timesF x r).pos 0 W h (by have := hTB.pos; have := HL.out; omega) hL00
      have HB1 := HBK.out r
      have HBR : Hid (back x (timesF x r) = decide (ue < (timesF x r).now + way x (timesF x r).pos 0)) := HB1
      have hnow := hTB.now
      have hpos := hTB.pos
      rw [HL.out] at hpos
      have hE : r = [] ↔ k = 0 := by rw [← HN.out, List.length_eq_zero_iff]
      have HE := Lib.hid hE
      have HRS : Hid (∀ f : Bool, (f = true ↔ (x.kind ≠ 2 → k = 0 ∨ ¬ ue < (timesF x r).now + way x (timesF x r).pos 0)) → (f = true ↔ Goes x r)) := by
        intro f hf
        rw [hf, goes_steps]
        unfold Home
        rw [HBR.out, decide_eq_false_iff_not, HE.out]
        exact ⟨fun h => ⟨HSG.out, h⟩, fun h => h.2⟩
      rw [show ((0 : Nat) : Int) = 0 from rfl] at HWY
      clear hE HB1 hTB HW HBK hOK hlt HBR HE HSG
      generalize timesF x r = t at *
      obtain ⟨tn, tp, tl, tq⟩ := t
      simp only at *
      generalize way x tp 0 = wy at *
      have hk6 : (k : Int) ≤ 1000000 := by omega
      obtain ⟨c0, c1, c2, c3, c4, c5, c6, c7⟩ := HS.out.box.cells
      obtain ⟨z0, z1, z2, z3, z4, z5, z6⟩ := HD0.out.below HS.out.below hbw
      go_upto_region 29 with (go_at_call 44; (with_reducible refine (HWY.out _ (HX.out.next HS.out.below)).mono ?_); rintro e w6 ⟨rfl, hb6⟩; have HS6 := Lib.hid (HS.out.next hb6); clear hb6 c0 c1 c2 c3 c4 c5 c6 c7 z0 z1 z2 z3 z4 z5 z6; obtain ⟨c0, c1, c2, c3, c4, c5, c6, c7⟩ := HS6.out.box.cells; obtain ⟨z0, z1, z2, z3, z4, z5, z6⟩ := HD0.out.below HS6.out.below hbw)
      have HW1 := Lib.hid we
      clear HWY we c0 c2 c3 c4 c5 c7 z0 z1 z2 z3 z5 z6
      by_cases k2 : x.kind = 2
      · have kb : (x.kind == 2) = true := beq_iff_eq.2 k2
        have K2 := Lib.hid k2
        clear k2
        go_wp2
        exact ⟨rfl, _, results_tmp rfl _ _ _, _, rfl, HRS.out _ ⟨fun _ h => absurd K2.out h, fun _ => rfl⟩, HS6.out.below⟩
      · have kb : (x.kind == 2) = false := beq_eq_false_iff_ne.2 k2
        have K2 := Lib.hid k2
        clear k2
        by_cases k0 : k = 0
        · have kc : ((k : Int) == 0) = true := by rw [k0]; rfl
          have K0 := Lib.hid k0
          clear k0
          go_wp2
          exact ⟨rfl, _, results_tmp rfl _ _ _, _, rfl, HRS.out _ ⟨fun _ _ => .inl K0.out, fun _ => rfl⟩, HS6.out.below⟩
        · have kc : ((k : Int) == 0) = false := beq_eq_false_iff_ne.2 (by omega)
          have K0 := Lib.hid k0
          clear k0
          by_cases h : tn + wy ≤ wrap64 (uu * d0.due)
          · go_wp2
            exact ⟨rfl, _, results_tmp rfl _ _ _, _, rfl, HRS.out _ ⟨fun _ _ => .inr (by have := HW1.out; omega), fun _ => by simp⟩, HS6.out.below⟩
          · go_wp2
            exact ⟨rfl, _, results_tmp rfl _ _ _, .inl ⟨rfl, fun hG => absurd ((HRS.out false ⟨nofun, fun e => by rcases e K2.out with e | e; exact absurd e K0.out; have := HW1.out; omega⟩).2 hG) (by simp), HS6.out.below⟩⟩
end Go.Proofs
