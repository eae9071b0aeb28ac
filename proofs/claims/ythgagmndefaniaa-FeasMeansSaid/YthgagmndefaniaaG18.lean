/- The document's own route: what is wrong with one. Conditions: an instance that may be relied on; stops that are nodes; a million at most. -/
import Derived.Test.YthgagmndefaniaaG16
import Derived.Test.YthgagmndefaniaaG17
import Derived.Deep.DrawnRows
import Derived.Deep.RegionHeld3
import Derived.Deep.CutRange
import Derived.Deep.CutBlock
import Derived.Test.YthgagmndefaniaaG05
namespace Go.Feas
open Go.Canon Go.Plans
theorem loadW_at {x : Ins} {i : Nat} {r : List Int} {k : Nat} {v s : Int} (h : ∀ (j : Nat) (u : Int), j < k → (loads x r)[j]? = some u → overB x u = false) (hv : (loads x r)[k]? = some v) (ho : overB x v = true) (hs : r[k]? = some s) : loadW x i r = [(5, (i : Int), s)] := by
  have e : (loads x r).findIdx? (overB x) = some k := by
    rw [List.findIdx?_eq_some_iff_getElem]
    obtain ⟨hk, hk2⟩ := List.getElem?_eq_some_iff.1 hv
    refine ⟨hk, by rw [hk2]; exact ho, fun j hj => ?_⟩
    have := h j _ hj (List.getElem?_eq_getElem (by omega))
    simp [this]
  unfold loadW
  rw [e]
  simp [List.getD, hs]
theorem loadW_len (x : Ins) (i : Nat) (r : List Int) : (loadW x i r).length ≤ 1 := by
  unfold loadW
  split <;> simp
theorem lateW_len (x : Ins) (i : Nat) (r : List Int) : (lateW x i r).length ≤ 1 := by
  unfold lateW
  split
  · simp
  · split <;> simp
theorem pairK_len (x : Ins) (i : Nat) (r : List Int) (k : Nat) : (pairK x i r k).length ≤ 1 := by
  unfold pairK
  split
  · simp
  · split <;> simp
theorem pairsW_len (x : Ins) (i : Nat) (r : List Int) : ∀ k, (pairsW x i r k).length ≤ k
  | 0 => Nat.le_refl _
  | k + 1 => by
    have := pairsW_len x i r k
    have := pairK_len x i r k
    rw [pairsW, List.length_append]; omega
theorem loadW_none {x : Ins} {i : Nat} {r : List Int} (h : ∀ (j : Nat) (u : Int), (loads x r)[j]? = some u → overB x u = false) : loadW x i r = [] := by
  have e : (loads x r).findIdx? (overB x) = none := by
    rw [List.findIdx?_eq_none_iff]
    intro u hu
    obtain ⟨j, hj⟩ := List.mem_iff_getElem?.1 hu
    exact h j u hj
  unfold loadW
  rw [e]
end Go.Feas
namespace Go.Proofs
open Go.RowKit Go.Shelf Go.Canon Go.Feas Go.Plans
attribute [local go_sem] Oper.semAt_some
attribute [local go_sem ↓] Go.wp_at_zero Go.wp_at_succ
/-- An instance in its box, and a row of wrongs of a call's own. -/
structure WrS (w : World) (x : Ins) (vn vm : Value) (o : Value) (l : List Wr) (W : World) : Prop where
  box : InsBox W w.heap.size x vn vm 40
  below : Below w.heap.size w W
  row : W.ownsRow (w.heap.size + 1) 66 3 o l.length (l.flatMap wrC)
theorem WrS.next {w W W' : World} {x : Ins} {vn vm o : Value} {l : List Wr} (h : WrS w x vn vm o l W) (hb : Below W.heap.size W W') : WrS w x vn vm o l W' :=
  ⟨h.box.next hb, h.below.trans (hb.mono h.below.size), fowns_next h.row hb⟩
theorem WrS.drew {w W : World} {x : Ins} {vn vm o : Value} {l : List Wr} (h : WrS w x vn vm o l W) : WrS w x vn vm o l W.drew := ⟨h.box, h.below.drew, h.row⟩
theorem WrS.drewN {w W : World} {x : Ins} {vn vm o : Value} {l : List Wr} (h : WrS w x vn vm o l W) (n : Nat) : WrS w x vn vm o l (W.drewN n) := ⟨h.box, cbelow_drewN h.below n, h.row⟩
theorem WrS.alloc {w W : World} {x : Ins} {vn vm o : Value} {l : List Wr} (h : WrS w x vn vm o l W) (ob : Obj) : WrS w x vn vm o l (W.alloc ob) := h.next (fbelow_box W ob)
theorem WrS.grow {w W W' : World} {x : Ins} {vn vm o o' : Value} {l l' : List Wr} (h : WrS w x vn vm o l W) (hg : W.grownBy W' o.ownBlock) (hr : W'.ownsRow (w.heap.size + 1) 66 3 o' l'.length (l'.flatMap wrC)) : WrS w x vn vm o' l' W' :=
  ⟨h.box.grown (Nat.lt_succ_self _) h.row hg, fgrown_below h.below h.below.size (Nat.le_succ _) h.row hg, hr⟩
theorem WrS.slice {w W : World} {x : Ins} {vn vm o : Value} {l : List Wr} (h : WrS w x vn vm o l W) : ∃ a c, o = .slice a l.length c := owns_dat h.row
theorem wrS_nd {w W : World} {x : Ins} {vn vm o : Value} {l : List Wr} {b2 o2 b off : Nat} {s : Int} {d : Nd} (h : WrS w x vn vm o l W) (hb2 : b2 < w.heap.size) (hc : w.cell? ⟨b2, o2, none⟩ = some (.int .i64 s)) (hb : b < w.heap.size) (hd : NdAt w b off d) :
    W.cell? ⟨w.heap.size, 6, none⟩ = some vn ∧ W.cell? ⟨b2, o2, none⟩ = some (.int .i64 s) ∧ W.cell? ⟨b, off, none⟩ = some (.int .i64 d.x) ∧ W.cell? ⟨b, off + 1, none⟩ = some (.int .i64 d.y) ∧ W.cell? ⟨b, off + 2, none⟩ = some (.int .i64 d.demand) ∧ W.cell? ⟨b, off + 3, none⟩ = some (.int .i64 d.ready) ∧ W.cell? ⟨b, off + 4, none⟩ = some (.int .i64 d.due) ∧ W.cell? ⟨b, off + 5, none⟩ = some (.int .i64 d.service) ∧ W.cell? ⟨b, off + 6, none⟩ = some (.int .i64 d.mate) ∧ WrS w x vn vm o l W := by
  obtain ⟨d0, d1, d2, d3, d4, d5, d6⟩ := hd.below h.below hb
  exact ⟨h.box.c 6, (h.below.cell (p := ⟨b2, o2, none⟩) hb2).trans hc, d0, d1, d2, d3, d4, d5, d6, h⟩
structure NdWrS (w : World) (x : Ins) (vn vm : Value) (o : Value) (l : List Wr) (D : Nat) (d : Nd) (W : World) : Prop where
  row : WrS w x vn vm o l W
  nd : NdBox W D d 70
theorem NdWrS.next {w W W' : World} {x : Ins} {vn vm o : Value} {l : List Wr} {D : Nat} {d : Nd} (h : NdWrS w x vn vm o l D d W) (hb : Below W.heap.size W W') : NdWrS w x vn vm o l D d W' := ⟨h.row.next hb, h.nd.next hb⟩
theorem NdWrS.drew {w W : World} {x : Ins} {vn vm o : Value} {l : List Wr} {D : Nat} {d : Nd} (h : NdWrS w x vn vm o l D d W) : NdWrS w x vn vm o l D d W.drew := ⟨h.row.drew, h.nd⟩
theorem ndWrS_S {w W : World} {x : Ins} {vn vm o : Value} {l : List Wr} {D : Nat} {d : Nd} (h : NdWrS w x vn vm o l D d W) :
    W.cell? ⟨D, 2, none⟩ = some (.int .i64 d.demand) ∧ W.cell? ⟨D, 6, none⟩ = some (.int .i64 d.mate) ∧ NdWrS w x vn vm o l D d W := ⟨h.nd.c 2, h.nd.c 6, h⟩
theorem HasInts.drop {W : World} {b off cap : Nat} {l : List Int} (h : HasInts W (.slice (some ⟨b, off, none⟩) l.length cap) l) {j : Nat} (hj : j ≤ l.length) (hc : l.length ≤ cap) : HasInts W (.slice (if cap = j then some ⟨b, off, none⟩ else some ⟨b, off + j, none⟩) (l.length - j) (cap - j)) (l.drop j) := by
  by_cases he : cap = j
  · rw [if_pos he]
    exact .inl ⟨List.drop_eq_nil_iff.2 (by omega), some ⟨b, off, none⟩, cap - j, by rw [show l.length - j = 0 by omega]⟩
  · rw [if_neg he]
    rcases h with ⟨rfl, _⟩ | ⟨b', off', cap', e, h2, h3, h4⟩
    · exact .inl ⟨by simp, some ⟨b, off + j, none⟩, cap - j, by simp⟩
    · injection e with e1 e2 e3
      injection e1 with e1
      injection e1 with e4 e5
      subst e4; subst e5; subst e3
      refine .inr ⟨b, off + j, cap - j, by rw [List.length_drop], by rw [List.length_drop]; omega, by omega, h4.1, fun i y hi => ?_⟩
      rw [List.getElem?_drop] at hi
      rw [Nat.add_assoc]
      exact h4.2 (j + i) y hi
theorem wrs_empty (w : World) (x : Ins) (vn vm : Value) : WrS w x vn vm (.slice (some ⟨w.heap.size + 1, 0, none⟩) 0 0) [] ((w.alloc (.cells #[.string x.name, .int .i64 x.kind, .int .i64 x.metric, .int .i64 x.scale, .int .i64 x.cap, .int .i64 x.fleet, vn, vm] 40)).alloc (.cells #[] 66)) := by
  refine ⟨(InsBox.new w x vn vm 40).alloc _, (fbelow_box w _).alloc (by simp) _, ?_⟩
  have h := cowns_empty (w.alloc (.cells #[.string x.name, .int .i64 x.kind, .int .i64 x.metric, .int .i64 x.scale, .int .i64 x.cap, .int .i64 x.fleet, vn, vm] 40)) 66 3
  simpa using h
set_option maxRecDepth 100000 in
set_option maxHeartbeats 2000000 in
theorem Try.rroute_calls (x : Ins) (vn vm v : Value) (r : List Int) (i : Nat) (w : World) (hx : HasIns w vn vm x) (hg : Fine x) (hl : r.length ≤ 1000000) (hnb : nodesB x r = true) (hv : HasInts w v r) :
    Calls Try.prog 36 #[insV x vn vm, .int .i64 (i : Int), v] w fun e w' => ∃ v', e = .returned v' ∧ w'.ownsRow (w.heap.size + 1) 66 3 v' (routeW x i r).length ((routeW x i r).flatMap wrC) ∧ Below w.heap.size w w' := by
  obtain ⟨i0, hio, hz0, hz1, hz2⟩ := info_parts Try.info66
  have HI := Lib.hid hio
  have HX := Lib.hid hx
  have HLD : Hid (∀ W, HasIns W vn vm x → HasInts W v r → Calls Try.prog 24 #[insV x vn vm, v] W fun e w' => ∃ v', e = .returned v' ∧ HasInts w' v' (loads x r) ∧ Below W.heap.size W w') := fun W h k => (Try.RLoads_own x vn vm v r W h hg hl k).mono fun _ _ ⟨v', h1, h2, h3⟩ => ⟨v', h1, hasInts_of_owns h2, h3⟩
  have HTM : Hid (∀ W, HasIns W vn vm x → HasInts W v r → Calls Try.prog 42 #[insV x vn vm, v] W fun e w' => ∃ v', e = .returned (.tuple #[v', .int .i64 (lateI x r)]) ∧ Below W.heap.size W w') := fun W h k => (Try.Rtimes_own x vn vm v r W h hg hl k).mono fun _ _ ⟨v', h1, _, h3⟩ => ⟨v', h1, h3⟩
  have HHS := Lib.hid fun u l s W h k => Try.rhas_calls u l s W h k
  have hll : (loads x r).length = r.length := by unfold loads; rw [hnb, if_pos rfl, loadsF_length]
  obtain ⟨b, off, cn, rfl, hlc, hcm, hNo⟩ := hx.all hg.lo
  obtain ⟨am, cm, rfl, _⟩ := hx.matrix.dat
  have HV := Lib.hid hv
  obtain ⟨ar, cr, rfl⟩ := hv.len
  obtain ⟨n, hn⟩ : ∃ n, r.length = n := ⟨_, rfl⟩
  rw [hn] at hl HV HLD HTM hll ⊢
  have HN := Lib.hid hn
  obtain ⟨L, hL⟩ : ∃ L, x.nodes.length = L := ⟨_, rfl⟩
  have HL := Lib.hid hL
  have HNO := Lib.hid fun i hi => nodesAt_nd hNo (i := i) hi
  have hbw := hNo.1
  rw [hL] at HX HLD HTM ⊢
  have HG := Lib.hid hg
  have HT := Lib.hid hnb
  unfold insV at HLD HTM ⊢
  clear hx hv hn hL hg hio hNo hnb
  have HS0 := Lib.hid (wrs_empty w x (.slice (some ⟨b, off, none⟩) L cn) (.slice am x.matrix.length cm))
  go_enter Try.func36, Try.ntmps36
  go_upto_block 0 with (go_at_call 24; (with_reducible refine (HLD.out _ (HX.out.next HS0.out.below) (HV.out.next HS0.out.below)).mono ?_); rintro e w1 ⟨v1, rfl, hv1, hb1⟩; have HS1 := Lib.hid (HS0.out.next hb1); have HV1 := Lib.hid hv1; clear hv1)
  go_cut [7] from 18 to 46 (fun o wx => WrS w x (.slice (some ⟨b, off, none⟩) L cn) (.slice am x.matrix.length cm) o (loadW x i r) wx)
  case first =>
    obtain ⟨a1, n1, hv1⟩ := HV1.out.len
    rw [hll] at hv1
    subst hv1
    go_wp2_with (fail)
    go_loopw [7, 9] (fun o kk wr => ∃ k : Nat, k ≤ n ∧ o = .slice (some ⟨w.heap.size + 1, 0, none⟩) 0 0 ∧ kk = .int .i64 (k : Int) ∧ Hid (∀ (j : Nat) (u : Int), j < k → (loads x r)[j]? = some u → overB x u = false) ∧ WrS w x (.slice (some ⟨b, off, none⟩) L cn) (.slice am x.matrix.length cm) (.slice (some ⟨w.heap.size + 1, 0, none⟩) 0 0) [] wr ∧ Below w1.heap.size w1 wr) (fun _ kk _ => n - (intOf kk).toNat)
    case atStart => exact ⟨0, Nat.zero_le _, rfl, rfl, Lib.hid (fun j u h => by omega), HS1.out, Below.refl _ _⟩
    case round =>
      obtain ⟨k, hk, rfl, rfl, hT, hS, hR⟩ := hrel
      have HS := Lib.hid hS
      have HR := Lib.hid hR
      obtain ⟨c0, c1, c2, c3, c4, c5, c6, c7⟩ := hS.box.cells
      clear hS hR
      by_cases hlt : k < n
      · obtain ⟨s, hs⟩ : ∃ s, r[k]? = some s := ⟨_, List.getElem?_eq_getElem (by have := HN.out; omega)⟩
        obtain ⟨u, hu⟩ : ∃ u, (loads x r)[k]? = some u := ⟨_, List.getElem?_eq_getElem (by omega)⟩
        have hki : (k : Int) < (n : Int) := by omega
        obtain ⟨b2, off2, cap, e, _, _, hbw2, hc⟩ := HV.out.atc hs
        rw [HN.out] at e
        injection e with h1 h2 h3
        subst h1
        subst h3
        clear h2
        obtain ⟨b3, off3, cap3, e, _, _, hbw3, hc3⟩ := HV1.out.atc hu
        rw [hll] at e
        injection e with h1 h2 h3
        subst h1
        subst h3
        clear h2
        have hc := (HS.out.below.cell (p := ⟨b2, off2 + k, none⟩) hbw2).trans hc
        have hc3 := (HR.out.cell (p := ⟨b3, off3 + k, none⟩) hbw3).trans hc3
        by_cases h1 : x.cap < u
        · have HF := Lib.hid (loadW_at (i := i) hT.out hu (by simp [overB, h1]) hs)
          clear hs hu hT
          have HC2 := Lib.hid hc
          have hs1 : w.heap.size + 1 ≤ wr.heap.size := HS.out.box.lt
          go_wp2
          go_quiet (fail)
          obtain ⟨w5, h5⟩ : ∃ w5, w5 = wr.drewN nq := ⟨_, rfl⟩
          have HS5 : Hid (WrS w x (.slice (some ⟨b, off, none⟩) L cn) (.slice am x.matrix.length cm) (.slice (some ⟨w.heap.size + 1, 0, none⟩) 0 0) [] w5) := by rw [h5]; exact HS.out.drewN nq
          have hc5 : w5.cell? ⟨b2, off2 + k, none⟩ = some (.int .i64 s) := by rw [h5]; exact HC2.out
          have hs5 : w.heap.size + 1 ≤ w5.heap.size := by rw [h5]; exact hs1
          rw [← h5]
          clear h5 c0 c1 c2 c3 c4 c5 c6 c7 hc hc3 HS hs1
          go_wp2_with (at_builtin; refine wpList_append_own _ rfl _ _ 35 rfl (w.heap.size + 1) 66 i0 (.agg #[.int .i64 0, .int .i64 0, .int .i64 0]) 3 24 Try.underlying35 HI.out hz0 hz1 hz2 rfl (by decide) _ _ _ rfl (HS5.out.row.alloc _) ⟨w5.heap.size, 0, none⟩ 1 1 (wrC (5, (i : Int), s)) rfl rfl (cells_wr w5 _ _ _ 66) (by simp [Value.oneCell', wrC]) (by unfold maxLen; simp) (by simp) (by simp; omega) ?_; intro v' w6 hown' hgrow _; have HS6 : Hid (WrS w x (.slice (some ⟨b, off, none⟩) L cn) (.slice am x.matrix.length cm) v' (loadW x i r) w6) := (by rw [HF.out]; exact (HS5.out.alloc _).grow hgrow (by simpa [wrC] using hown')); clear hown' hgrow)
          go_meet
          exact HS6.out
        · by_cases h2 : u < 0
          · have HF := Lib.hid (loadW_at (i := i) hT.out hu (by simp [overB, h2]) hs)
            clear hs hu hT
            have HC2 := Lib.hid hc
            have hs1 : w.heap.size + 1 ≤ wr.heap.size := HS.out.box.lt
            go_wp2
            go_quiet (fail)
            obtain ⟨w5, h5⟩ : ∃ w5, w5 = wr.drewN nq := ⟨_, rfl⟩
            have HS5 : Hid (WrS w x (.slice (some ⟨b, off, none⟩) L cn) (.slice am x.matrix.length cm) (.slice (some ⟨w.heap.size + 1, 0, none⟩) 0 0) [] w5) := by rw [h5]; exact HS.out.drewN nq
            have hc5 : w5.cell? ⟨b2, off2 + k, none⟩ = some (.int .i64 s) := by rw [h5]; exact HC2.out
            have hs5 : w.heap.size + 1 ≤ w5.heap.size := by rw [h5]; exact hs1
            rw [← h5]
            clear h5 c0 c1 c2 c3 c4 c5 c6 c7 hc hc3 HS hs1
            go_wp2_with (at_builtin; refine wpList_append_own _ rfl _ _ 35 rfl (w.heap.size + 1) 66 i0 (.agg #[.int .i64 0, .int .i64 0, .int .i64 0]) 3 24 Try.underlying35 HI.out hz0 hz1 hz2 rfl (by decide) _ _ _ rfl (HS5.out.row.alloc _) ⟨w5.heap.size, 0, none⟩ 1 1 (wrC (5, (i : Int), s)) rfl rfl (cells_wr w5 _ _ _ 66) (by simp [Value.oneCell', wrC]) (by unfold maxLen; simp) (by simp) (by simp; omega) ?_; intro v' w6 hown' hgrow _; have HS6 : Hid (WrS w x (.slice (some ⟨b, off, none⟩) L cn) (.slice am x.matrix.length cm) v' (loadW x i r) w6) := (by rw [HF.out]; exact (HS5.out.alloc _).grow hgrow (by simpa [wrC] using hown')); clear hown' hgrow)
            go_meet
            exact HS6.out
          · have HT2 : Hid (∀ (j : Nat) (u : Int), j < k + 1 → (loads x r)[j]? = some u → overB x u = false) := fun j y hj hy => by
              by_cases e : j = k
              · subst e; rw [hu] at hy; cases hy; simp [overB]; omega
              · exact hT.out j y (by omega) hy
            clear hs hu hT
            go_wp2
            go_quiet (fail)
            go_wp2
            go_roundw
            case rel => exact ⟨k + 1, by omega, rfl, by go_num, HT2, HS.out.drewN _, lbelow_drewN HR.out _⟩
            case measure => simp [intOf]; omega
      · obtain rfl : k = n := by omega
        have HF : Hid (loadW x i r = []) := loadW_none fun j u hj => hT.out j u (by have := (List.getElem?_eq_some_iff.1 hj).1; omega) hj
        go_wp2
        go_meet
        rw [HF.out]
        exact HS.out
  case rest =>
    have HS := Lib.hid hcut
    have HR1 := Lib.hid HS1.out.below
    obtain ⟨c0, c1, c2, c3, c4, c5, c6, c7⟩ := hcut.box.cells
    clear hcut HS0 HS1 HLD HV1 hb1
    by_cases k2 : x.kind = 2
    · have e : Hid (routeW x i r = loadW x i r) := by unfold Hid routeW; rw [if_pos k2, List.append_nil]
      have kb : (x.kind == 2) = true := beq_iff_eq.2 k2
      clear k2
      go_wp2
      go_ret
      exact ⟨_, rfl, by rw [e.out]; exact HS.out.row, HS.out.below⟩
    · have kb : (x.kind == 2) = false := beq_eq_false_iff_ne.2 k2
      go_upto_region 11 with (go_at_call 42; (with_reducible refine (HTM.out _ (HX.out.next HS.out.below) (HV.out.next HS.out.below)).mono ?_); rintro e w3 ⟨v3, rfl, hb3⟩; have HS3 := Lib.hid (HS.out.next hb3); clear hb3 c0 c1 c2 c3 c4 c5 c6 c7)
      obtain ⟨li, hli⟩ : ∃ li, lateI x r = li := ⟨_, rfl⟩
      have HLW : Hid (lateW x i r = (if 0 ≤ li ∧ li < (n : Int) then [((6, (i : Int), r.getD li.toNat 0) : Wr)] else []) ++ if li = (n : Int) then [((6, (i : Int), 0) : Wr)] else []) := by
        unfold Hid lateW
        rw [hli, HN.out]
        by_cases h1 : 0 ≤ li ∧ li < (n : Int)
        · rw [if_pos h1, if_pos h1, if_neg (by omega), List.append_nil]
        · rw [if_neg h1, if_neg h1, List.nil_append]
      have hlw1 := loadW_len x i r
      rw [hli]
      clear hli HTM
      obtain ⟨lw, hlw⟩ : ∃ lw, loadW x i r = lw := ⟨_, rfl⟩
      have hlw0 := Lib.hid hlw
      rw [hlw] at HS3 hlw1
      clear hlw
      go_cut [64] from 57 to 64 (fun t wx => t = .bool (decide (0 ≤ li) && decide (li < (n : Int))) ∧ wx = w3)
      case first =>
        by_cases h1 : 0 ≤ li
        · by_cases h2 : li < (n : Int)
          · go_wp2
            go_meet
            exact ⟨by simp [h1, h2], rfl⟩
          · go_wp2
            go_meet
            exact ⟨by simp [h1, h2], rfl⟩
        · have e : Hid ((decide (0 ≤ li) && decide (li < (n : Int))) = false) := by unfold Hid; rw [decide_eq_false h1]; rfl
          go_wp2
          go_meet
          exact ⟨by rw [e.out], rfl⟩
      case rest =>
        obtain ⟨rfl, rfl⟩ := hcut
        go_upto_if 64 with (fail)
        go_cut [7] from 64 to 73 (fun o wx => WrS w x (.slice (some ⟨b, off, none⟩) L cn) (.slice am x.matrix.length cm) o (lw ++ (if 0 ≤ li ∧ li < (n : Int) then [((6, (i : Int), r.getD li.toNat 0) : Wr)] else [])) wx)
        case first =>
          by_cases h1 : 0 ≤ li ∧ li < (n : Int)
          · have hif := Lib.hid h1
            rw [decide_eq_true h1.1, decide_eq_true h1.2]
            obtain ⟨q, rfl⟩ : ∃ q : Nat, li = (q : Int) := ⟨li.toNat, by omega⟩
            have hqn : q < n := by omega
            have hqi : (q : Int) < (n : Int) := by omega
            obtain ⟨s, hs⟩ : ∃ s, r[q]? = some s := ⟨_, List.getElem?_eq_getElem (by have := HN.out; omega)⟩
            obtain ⟨b2, off2, cap, e, _, _, hbw2, hc⟩ := HV.out.atc hs
            rw [HN.out] at e
            injection e with e1 e2 e3
            subst e1
            subst e3
            clear e2
            have hc := (HS3.out.below.cell (p := ⟨b2, off2 + q, none⟩) hbw2).trans hc
            have hgd : r.getD (q : Int).toNat 0 = s := by simp [List.getD, hs]
            have HGD := Lib.hid hgd
            have hs3 : w.heap.size + 1 ≤ wc.heap.size := HS3.out.box.lt
            clear hs hgd
            simp only [Bool.and_true]
            go_wp2_with (at_builtin; refine wpList_append_own _ rfl _ _ 35 rfl (w.heap.size + 1) 66 i0 (.agg #[.int .i64 0, .int .i64 0, .int .i64 0]) 3 24 Try.underlying35 HI.out hz0 hz1 hz2 rfl (by decide) _ _ _ rfl (HS3.out.row.alloc _) ⟨wc.heap.size, 0, none⟩ 1 1 (wrC (6, (i : Int), s)) rfl rfl (cells_wr wc _ _ _ 66) (by simp [Value.oneCell', wrC]) (by unfold maxLen; omega) (by omega) (by simp; omega) ?_; intro v' w6 hown' hgrow _; have HS6 : Hid (WrS w x (.slice (some ⟨b, off, none⟩) L cn) (.slice am x.matrix.length cm) v' (lw ++ [(6, (i : Int), s)]) w6) := ((HS3.out.alloc _).grow hgrow (by rw [List.length_append, flat_snoc]; exact hown')); clear hown' hgrow)
            go_meet
            rw [if_pos hif.out, HGD.out]
            exact HS6.out
          · have hif := Lib.hid h1
            have hb : (decide (0 ≤ li) && decide (li < (n : Int))) = false := by
              rw [Bool.and_eq_false_iff, decide_eq_false_iff_not, decide_eq_false_iff_not]; omega
            rw [hb]
            go_wp2
            go_meet
            rw [if_neg hif.out, List.append_nil]
            exact HS3.out
        case rest =>
          have HS4 := Lib.hid hcut
          have hA1 : ((if 0 ≤ li ∧ li < (n : Int) then [((6, (i : Int), r.getD li.toNat 0) : Wr)] else []) : List Wr).length ≤ 1 := by split <;> simp
          generalize (if 0 ≤ li ∧ li < (n : Int) then [((6, (i : Int), r.getD li.toNat 0) : Wr)] else []) = lA at *
          clear hcut HS3
          go_upto_if 77 with (fail)
          go_cut [7] from 74 to 82 (fun o wx => WrS w x (.slice (some ⟨b, off, none⟩) L cn) (.slice am x.matrix.length cm) o (lw ++ lateW x i r) wx)
          case first =>
            by_cases h1 : li = (n : Int)
            · have hif := Lib.hid h1
              have hb : (li == (n : Int)) = true := beq_iff_eq.2 h1
              have hs4 : w.heap.size + 1 ≤ wc.heap.size := HS4.out.box.lt
              have hlA : (lw ++ lA).length ≤ 2 := by rw [List.length_append]; omega
              clear h1
              go_wp2_with (at_builtin; refine wpList_append_own _ rfl _ _ 35 rfl (w.heap.size + 1) 66 i0 (.agg #[.int .i64 0, .int .i64 0, .int .i64 0]) 3 24 Try.underlying35 HI.out hz0 hz1 hz2 rfl (by decide) _ _ _ rfl (HS4.out.row.alloc _) ⟨wc.heap.size, 0, none⟩ 1 1 (wrC ((6, (i : Int), 0) : Wr)) rfl rfl (cells_wr wc _ _ _ 66) (by simp [Value.oneCell', wrC]) (by unfold maxLen; omega) (by omega) (by simp; omega) ?_; intro v' w6 hown' hgrow _; have HS6 : Hid (WrS w x (.slice (some ⟨b, off, none⟩) L cn) (.slice am x.matrix.length cm) v' ((lw ++ lA) ++ [((6, (i : Int), 0) : Wr)]) w6) := ((HS4.out.alloc _).grow hgrow (by rw [List.length_append, flat_snoc]; exact hown')); clear hown' hgrow)
              go_meet
              rw [HLW.out, if_pos hif.out, ← List.append_assoc]
              exact HS6.out
            · have hif := Lib.hid h1
              have hb : (li == (n : Int)) = false := beq_eq_false_iff_ne.2 h1
              clear h1
              go_wp2
              go_meet
              rw [HLW.out, if_neg hif.out, List.append_nil]
              exact HS4.out
          case rest =>
            have HS5 := Lib.hid hcut
            obtain ⟨c0, c1, c2, c3, c4, c5, c6, c7⟩ := hcut.box.cells
            have hlt2 := lateW_len x i r
            clear hcut HS4 HLW HS
            obtain ⟨lt, hlte⟩ : ∃ lt, lateW x i r = lt := ⟨_, rfl⟩
            have hlt0 := Lib.hid hlte
            rw [hlte] at HS5 hlt2
            clear hlte
            by_cases k3 : x.kind = 3
            · have e : Hid (routeW x i r = lw ++ lt) := by unfold Hid routeW; rw [if_neg k2, if_pos k3, List.append_nil, hlw0.out, hlt0.out]
              have kb3 : (x.kind == 3) = true := beq_iff_eq.2 k3
              clear k3 k2
              go_wp2
              go_ret
              exact ⟨_, rfl, by rw [e.out]; exact HS5.out.row, HS5.out.below⟩
            · have e : Hid (routeW x i r = (lw ++ lt) ++ pairsW x i r n) := by unfold Hid routeW; rw [if_neg k2, if_neg k3, hlw0.out, hlt0.out, HN.out, List.append_assoc]
              have kb3 : (x.kind == 3) = false := beq_eq_false_iff_ne.2 k3
              have hl0 : (lw ++ lt).length ≤ 2 := by rw [List.length_append]; omega
              clear k3 k2
              go_wp2_with (fail)
              clear c0 c1 c2 c3 c4 c5 c6 c7
              generalize lw ++ lt = l0 at *
              go_loopw [7, 12] (fun o kk wr => ∃ k : Nat, k ≤ n ∧ kk = .int .i64 (k : Int) ∧ WrS w x (.slice (some ⟨b, off, none⟩) L cn) (.slice am x.matrix.length cm) o (l0 ++ pairsW x i r k) wr) (fun _ kk _ => n - (intOf kk).toNat)
              case atStart => exact ⟨0, Nat.zero_le _, rfl, by show WrS _ _ _ _ _ (l0 ++ []) _; rw [List.append_nil]; exact HS5.out⟩
              case round =>
                obtain ⟨k, hk, rfl, hS⟩ := hrel
                have HS := Lib.hid hS
                clear hS HS5
                by_cases hlt : k < n
                · obtain ⟨s, hs⟩ : ∃ s, r[k]? = some s := ⟨_, List.getElem?_eq_getElem (by have := HN.out; omega)⟩
                  have hki : (k : Int) < (n : Int) := by omega
                  obtain ⟨b2, off2, cap, e2, hcn0, _, hbw2, hc⟩ := HV.out.atc hs
                  rw [HN.out] at e2 hcn0
                  injection e2 with h1 h2 h3
                  subst h1
                  subst h3
                  clear h2
                  have hsn := nodeB_lt (nodesB_at HT.out hs)
                  obtain ⟨m, rfl⟩ : ∃ m : Nat, s = (m : Int) := ⟨s.toNat, by omega⟩
                  simp only [Int.toNat_natCast] at hsn
                  rw [HL.out] at hsn
                  have hmL := hsn.2.2
                  have HDN := Lib.hid (HNO.out m (by have := HL.out; omega))
                  have hPK : Hid (pairsW x i r (k + 1) = pairsW x i r k ++ if (at' x m).demand ≤ 0 ∨ (at' x m).mate ∈ r.drop (k + 1) then [] else if (at' x m).mate ∈ r then [((8, (i : Int), (m : Int)) : Wr)] else [((7, (i : Int), (m : Int)) : Wr)]) := by
                    unfold Hid
                    rw [pairsW]
                    have hgd : r.getD k 0 = (m : Int) := by simp [List.getD, hs]
                    unfold pairK nd
                    rw [hgd, Int.toNat_natCast]
                  have hpl := pairsW_len x i r k
                  have hll2 : (l0 ++ pairsW x i r k).length ≤ 2 + k := by rw [List.length_append]; omega
                  have HPP : Hid (∀ q : List Wr, pairsW x i r (k + 1) = pairsW x i r k ++ q → l0 ++ pairsW x i r (k + 1) = (l0 ++ pairsW x i r k) ++ q) := fun q hq => by rw [hq, List.append_assoc]
                  have HDR := Lib.hid (HV.out)
                  clear hs
                  generalize hdd : at' x m = d at *
                  clear hdd hpl
                  generalize l0 ++ pairsW x i r k = lk at *
                  go_wp2_with (fail)
                  go_region_held3 (fun W => W.cell? ⟨w.heap.size, 6, none⟩ = some (.slice (some ⟨b, off, none⟩) L cn) ∧ W.cell? ⟨b2, off2 + k, none⟩ = some (.int .i64 (m : Int)) ∧ W.cell? ⟨b, off + m * 7, none⟩ = some (.int .i64 d.x) ∧ W.cell? ⟨b, off + m * 7 + 1, none⟩ = some (.int .i64 d.y) ∧ W.cell? ⟨b, off + m * 7 + 2, none⟩ = some (.int .i64 d.demand) ∧ W.cell? ⟨b, off + m * 7 + 3, none⟩ = some (.int .i64 d.ready) ∧ W.cell? ⟨b, off + m * 7 + 4, none⟩ = some (.int .i64 d.due) ∧ W.cell? ⟨b, off + m * 7 + 5, none⟩ = some (.int .i64 d.service) ∧ W.cell? ⟨b, off + m * 7 + 6, none⟩ = some (.int .i64 d.mate) ∧ WrS w x (.slice (some ⟨b, off, none⟩) L cn) (.slice am x.matrix.length cm) u7 lk W)
                    ((go_split_ands; (first | exact wrS_nd HS.out.drew hbw2 hc hbw HDN.out | exact wrS_nd (HS.out.alloc _).drew hbw2 hc hbw HDN.out)))
                    (fail)
                  rename_i hh
                  clear hh
                  obtain ⟨V, hV⟩ : ∃ V, V = (wr.alloc (.cells #[Value.int .i64 d.x, .int .i64 d.y, .int .i64 d.demand, .int .i64 d.ready, .int .i64 d.due, .int .i64 d.service, .int .i64 d.mate] 70)).drew := ⟨_, rfl⟩
                  have hV1 : NdWrS w x (.slice (some ⟨b, off, none⟩) L cn) (.slice am x.matrix.length cm) u7 lk wr.heap.size d V := by rw [hV]; exact ⟨(HS.out.alloc _).drew, NdBox.new wr d 70⟩
                  rw [← hV]
                  clear hV
                  obtain ⟨d0, d1, d2, d3, d4, d5, d6⟩ := hV1.nd.cells
                  by_cases hdem : d.demand ≤ 0
                  · have HQ : Hid (pairsW x i r (k + 1) = pairsW x i r k ++ []) := by unfold Hid; rw [hPK.out, if_pos (.inl hdem)]
                    have HS7 : Hid (WrS w x (.slice (some ⟨b, off, none⟩) L cn) (.slice am x.matrix.length cm) u7 (l0 ++ pairsW x i r (k + 1)) V) := by unfold Hid; rw [HPP.out _ HQ.out, List.append_nil]; exact hV1.row
                    clear hV1 hPK HPP HHS HX HNO HL HT HG hmL hsn hlc hcm hll2 hl0 hlw1 hlt2 hA1
                    go_wp2_with (fail)
                    go_quiet (fail)
                    go_wp2
                    go_roundw
                    case rel => exact ⟨k + 1, by omega, by go_num, HS7.out.drewN _⟩
                    case measure => simp [intOf]; omega
                  · have hdi : Hid (¬ d.demand ≤ 0) := hdem
                    have hdb : decide (d.demand ≤ 0) = false := decide_eq_false hdem
                    have hw1 : IntKind.i64.wrap ((k : Int) + 1) = (k : Int) + 1 := wrap_i64 (by omega) (by omega)
                    have hk2i : (k : Int) + 1 ≤ (n : Int) := by omega
                    have hk2p : (0 : Int) ≤ (k : Int) + 1 := by omega
                    have hk2n : ((k : Int) + 1).toNat = k + 1 := by omega
                    have hk2q : ¬ (k : Int) + 1 < 0 := by omega
                    have hk2r : ¬ (n : Int) < (k : Int) + 1 := by omega
                    have hcn : n ≤ cr := hcn0
                    have hcni : (n : Int) ≤ (cr : Int) := by omega
                    clear hdem
                    have HVD : Hid (∀ W, Below w.heap.size w W → HasInts W (.slice (if cr = k + 1 then some ⟨b2, off2, none⟩ else some ⟨b2, off2 + (k + 1), none⟩) (n - (k + 1)) (cr - (k + 1))) (r.drop (k + 1))) := fun W hb => by
                      have h := HDR.out.next hb
                      rw [← HN.out] at h ⊢
                      exact h.drop (by rw [HN.out]; omega) (by rw [HN.out]; exact hcn0)
                    have hdl : (r.drop (k + 1)).length ≤ 1000000 := by rw [List.length_drop, HN.out]; omega
                    obtain ⟨ao, hao⟩ : ∃ ao, (if cr = k + 1 then some (⟨b2, off2, none⟩ : Addr) else some ⟨b2, off2 + (k + 1), none⟩) = ao := ⟨_, rfl⟩
                    rw [hao] at HVD
                    by_cases hm1 : d.mate ∈ r.drop (k + 1)
                    · have HQ : Hid (pairsW x i r (k + 1) = pairsW x i r k ++ []) := by unfold Hid; rw [hPK.out, if_pos (.inr hm1)]
                      have HS7 : Hid (∀ W, WrS w x (.slice (some ⟨b, off, none⟩) L cn) (.slice am x.matrix.length cm) u7 lk W → WrS w x (.slice (some ⟨b, off, none⟩) L cn) (.slice am x.matrix.length cm) u7 (l0 ++ pairsW x i r (k + 1)) W) := fun W h => by rw [HPP.out _ HQ.out, List.append_nil]; exact h
                      have HH1 : Hid (∀ W, Below w.heap.size w W → Calls Try.prog 56 #[.slice ao (n - (k + 1)) (cr - (k + 1)), .int .i64 d.mate] W fun e w' => e = .returned (.bool true) ∧ Below W.heap.size W w') := fun W hb => (HHS.out _ _ d.mate W hdl (HVD.out W hb)).mono fun e w' h => ⟨h.1.trans (by rw [decide_eq_true hm1]), h.2⟩
                      clear hPK HPP HHS HX HNO HL HT HG hmL hsn hlc hcm hll2 hl0 hlw1 hlt2 hA1 HVD hm1 HQ hdl
                      go_wp2_with (fail)
                      go_region_held3 (fun W => W.cell? ⟨wr.heap.size, 2, none⟩ = some (.int .i64 d.demand) ∧ W.cell? ⟨wr.heap.size, 6, none⟩ = some (.int .i64 d.mate) ∧ NdWrS w x (.slice (some ⟨b, off, none⟩) L cn) (.slice am x.matrix.length cm) u7 lk wr.heap.size d W)
                        ((go_split_ands; (first | exact ndWrS_S (by assumption) | exact ndWrS_S hV1.drew | exact ndWrS_S (NdWrS.drew (by assumption)) | exact ndWrS_S (NdWrS.next (by assumption) (by assumption)))))
                        ((go_at_call 56; (with_reducible refine (HH1.out _ (by go_split_ands; first | exact (NdWrS.row (by assumption)).below | exact (NdWrS.drew (by assumption)).row.below)).mono ?_); rintro e w3 ⟨rfl, hb3⟩))
                      have T := (show _ ∧ _ ∧ NdWrS w x (.slice (some ⟨b, off, none⟩) L cn) (.slice am x.matrix.length cm) u7 lk wr.heap.size d w3 by assumption).2.2
                      rename_i hh
                      clear hh hV1 d0 d1 d2 d3 d4 d5 d6 hao
                      have HS8 := Lib.hid (HS7.out _ T.row)
                      clear T HS7 HH1
                      go_wp2
                      go_roundw
                      case rel => exact ⟨k + 1, by omega, by go_num, HS8.out⟩
                      case measure => simp [intOf]; omega
                    · have HH1 : Hid (∀ W, Below w.heap.size w W → Calls Try.prog 56 #[.slice ao (n - (k + 1)) (cr - (k + 1)), .int .i64 d.mate] W fun e w' => e = .returned (.bool false) ∧ Below W.heap.size W w') := fun W hb => (HHS.out _ _ d.mate W hdl (HVD.out W hb)).mono fun e w' h => ⟨h.1.trans (by rw [decide_eq_false hm1]), h.2⟩
                      by_cases hm2 : d.mate ∈ r
                      · have HQ : Hid (pairsW x i r (k + 1) = pairsW x i r k ++ [((8, (i : Int), (m : Int)) : Wr)]) := by unfold Hid; rw [hPK.out, if_neg (fun h => h.elim hdi.out hm1), if_pos hm2]
                        have HH2 : Hid (∀ W, Below w.heap.size w W → Calls Try.prog 56 #[.slice (some ⟨b2, off2, none⟩) n cr, .int .i64 d.mate] W fun e w' => e = .returned (.bool true) ∧ Below W.heap.size W w') := fun W hb => (HHS.out _ _ d.mate W (by rw [HN.out]; exact hl) (HDR.out.next hb)).mono fun e w' h => ⟨h.1.trans (by rw [decide_eq_true hm2]), h.2⟩
                        have HQ2 := Lib.hid (HPP.out _ HQ.out)
                        have hc0 := Lib.hid hc
                        have HC := Lib.hid hc
                        clear hPK HPP HHS HX HNO HL HT HG hmL hsn hlc hcm hl0 hlw1 hlt2 hA1 HVD hm1 HQ hdl hm2 hc HDN
                        go_wp2_with (fail)
                        go_region_held3 (fun W => W.cell? ⟨wr.heap.size, 2, none⟩ = some (.int .i64 d.demand) ∧ W.cell? ⟨wr.heap.size, 6, none⟩ = some (.int .i64 d.mate) ∧ NdWrS w x (.slice (some ⟨b, off, none⟩) L cn) (.slice am x.matrix.length cm) u7 lk wr.heap.size d W)
                          ((go_split_ands; (first | exact ndWrS_S (by assumption) | exact ndWrS_S hV1.drew | exact ndWrS_S (NdWrS.drew (by assumption)) | exact ndWrS_S (NdWrS.next (by assumption) (by assumption)))))
                          ((go_at_call 56; (with_reducible refine (HH1.out _ (by go_split_ands; first | exact (NdWrS.row (by assumption)).below | exact (NdWrS.drew (by assumption)).row.below)).mono ?_); rintro e w3 ⟨rfl, hb3⟩))
                        have T := (show _ ∧ _ ∧ NdWrS w x (.slice (some ⟨b, off, none⟩) L cn) (.slice am x.matrix.length cm) u7 lk wr.heap.size d w3 by assumption).2.2
                        rename_i hh
                        clear hh hV1 d0 d1 d2 d3 d4 d5 d6 hao
                        have HT3 := Lib.hid T
                        obtain ⟨d0, d1, d2, d3, d4, d5, d6⟩ := T.nd.cells
                        clear T HH1
                        go_wp2_with (first | (go_at_call 56; (with_reducible refine (HH2.out _ HT3.out.row.below).mono ?_); rintro e w4 ⟨rfl, hb4⟩; have HT4 := Lib.hid (HT3.out.next hb4); have hs4 : w.heap.size + 1 ≤ w4.heap.size := HT4.out.row.box.lt; have hc4 := (HT4.out.row.below.cell (p := ⟨b2, off2 + k, none⟩) hbw2).trans HC.out) | (at_builtin; refine wpList_append_own _ rfl _ _ 35 rfl (w.heap.size + 1) 66 i0 (.agg #[.int .i64 0, .int .i64 0, .int .i64 0]) 3 24 Try.underlying35 HI.out hz0 hz1 hz2 rfl (by decide) _ _ _ rfl (HT4.out.row.row.alloc _) ⟨w4.heap.size, 0, none⟩ 1 1 (wrC ((8, (i : Int), (m : Int)) : Wr)) rfl rfl (cells_wr w4 _ _ _ 66) (by simp [Value.oneCell', wrC]) (by unfold maxLen; omega) (by omega) (by simp; omega) ?_; intro v' w6 hown' hgrow _; have HS6 : Hid (WrS w x (.slice (some ⟨b, off, none⟩) L cn) (.slice am x.matrix.length cm) v' (lk ++ [((8, (i : Int), (m : Int)) : Wr)]) w6) := ((HT4.out.row.alloc _).grow hgrow (by rw [List.length_append, flat_snoc]; exact hown')); clear hown' hgrow))
                        go_roundw
                        case rel => exact ⟨k + 1, by omega, by go_num, by rw [HQ2.out]; exact HS6.out⟩
                        case measure => simp [intOf]; omega
                      · have HQ : Hid (pairsW x i r (k + 1) = pairsW x i r k ++ [((7, (i : Int), (m : Int)) : Wr)]) := by unfold Hid; rw [hPK.out, if_neg (fun h => h.elim hdi.out hm1), if_neg hm2]
                        have HH2 : Hid (∀ W, Below w.heap.size w W → Calls Try.prog 56 #[.slice (some ⟨b2, off2, none⟩) n cr, .int .i64 d.mate] W fun e w' => e = .returned (.bool false) ∧ Below W.heap.size W w') := fun W hb => (HHS.out _ _ d.mate W (by rw [HN.out]; exact hl) (HDR.out.next hb)).mono fun e w' h => ⟨h.1.trans (by rw [decide_eq_false hm2]), h.2⟩
                        have HQ2 := Lib.hid (HPP.out _ HQ.out)
                        have hc0 := Lib.hid hc
                        have HC := Lib.hid hc
                        clear hPK HPP HHS HX HNO HL HT HG hmL hsn hlc hcm hl0 hlw1 hlt2 hA1 HVD hm1 HQ hdl hm2 hc HDN
                        go_wp2_with (fail)
                        go_region_held3 (fun W => W.cell? ⟨wr.heap.size, 2, none⟩ = some (.int .i64 d.demand) ∧ W.cell? ⟨wr.heap.size, 6, none⟩ = some (.int .i64 d.mate) ∧ NdWrS w x (.slice (some ⟨b, off, none⟩) L cn) (.slice am x.matrix.length cm) u7 lk wr.heap.size d W)
                          ((go_split_ands; (first | exact ndWrS_S (by assumption) | exact ndWrS_S hV1.drew | exact ndWrS_S (NdWrS.drew (by assumption)) | exact ndWrS_S (NdWrS.next (by assumption) (by assumption)))))
                          ((go_at_call 56; (with_reducible refine (HH1.out _ (by go_split_ands; first | exact (NdWrS.row (by assumption)).below | exact (NdWrS.drew (by assumption)).row.below)).mono ?_); rintro e w3 ⟨rfl, hb3⟩))
                        have T := (show _ ∧ _ ∧ NdWrS w x (.slice (some ⟨b, off, none⟩) L cn) (.slice am x.matrix.length cm) u7 lk wr.heap.size d w3 by assumption).2.2
                        rename_i hh
                        clear hh hV1 d0 d1 d2 d3 d4 d5 d6 hao
                        have HT3 := Lib.hid T
                        obtain ⟨d0, d1, d2, d3, d4, d5, d6⟩ := T.nd.cells
                        clear T HH1
                        go_wp2_with (first | (go_at_call 56; (with_reducible refine (HH2.out _ HT3.out.row.below).mono ?_); rintro e w4 ⟨rfl, hb4⟩; have HT4 := Lib.hid (HT3.out.next hb4); have hs4 : w.heap.size + 1 ≤ w4.heap.size := HT4.out.row.box.lt; have hc4 := (HT4.out.row.below.cell (p := ⟨b2, off2 + k, none⟩) hbw2).trans HC.out) | (at_builtin; refine wpList_append_own _ rfl _ _ 35 rfl (w.heap.size + 1) 66 i0 (.agg #[.int .i64 0, .int .i64 0, .int .i64 0]) 3 24 Try.underlying35 HI.out hz0 hz1 hz2 rfl (by decide) _ _ _ rfl (HT4.out.row.row.alloc _) ⟨w4.heap.size, 0, none⟩ 1 1 (wrC ((7, (i : Int), (m : Int)) : Wr)) rfl rfl (cells_wr w4 _ _ _ 66) (by simp [Value.oneCell', wrC]) (by unfold maxLen; omega) (by omega) (by simp; omega) ?_; intro v' w6 hown' hgrow _; have HS6 : Hid (WrS w x (.slice (some ⟨b, off, none⟩) L cn) (.slice am x.matrix.length cm) v' (lk ++ [((7, (i : Int), (m : Int)) : Wr)]) w6) := ((HT4.out.row.alloc _).grow hgrow (by rw [List.length_append, flat_snoc]; exact hown')); clear hown' hgrow))
                        go_roundw
                        case rel => exact ⟨k + 1, by omega, by go_num, by rw [HQ2.out]; exact HS6.out⟩
                        case measure => simp [intOf]; omega
                · obtain rfl : k = n := by omega
                  have HE : Hid (WrS w x (.slice (some ⟨b, off, none⟩) L cn) (.slice am x.matrix.length cm) u7 (routeW x i r) wr) := by rw [e.out]; exact HS.out
                  clear HS e
                  go_wp2
                  go_ret
                  exact ⟨_, rfl, HE.out.row, HE.out.below⟩
end Go.Proofs
