/- The document's own Check: what is wrong with a plan. Conditions: an instance that may be relied on; a million stops, and routes, at most. -/
import Derived.Test.YthgagmndefaniaaG18
import Derived.Test.YthgagmndefaniaaG19
import Derived.Test.YthgagmndefaniaaG20
import Derived.Test.YthgagmndefaniaaG21
import Derived.Deep.RegionHeldLaw
namespace Go.Feas
open Go.Canon Go.Plans
theorem unkR_len (x : Ins) (i : Nat) (r : List Int) : (unkR x i r).length ≤ r.length := by
  unfold unkR; rw [List.length_map]; exact List.length_filter_le _ _
theorem unks_len (x : Ins) : ∀ (rr : Rts) (i : Nat), (unks x i rr).length ≤ many rr
  | [], _ => Nat.le_refl _
  | r :: rr, i => by
    have := unkR_len x i r
    have := unks_len x rr (i + 1)
    rw [unks, List.length_append, many_cons]; omega
theorem cntW_len (c n : Nat) : (cntW c n).length ≤ 1 := by
  unfold cntW
  split
  · simp
  · split <;> simp
theorem cnts_len (lo : Nat) (rr : Rts) : ∀ n, (cnts lo rr n).length ≤ n
  | 0 => Nat.le_refl _
  | n + 1 => by
    have := cnts_len lo rr n
    rw [cnts, List.length_append]
    split
    · have := cntW_len n (countR rr (n : Int)); omega
    · simp; omega
theorem fleetW_len (x : Ins) (rr : Rts) : (fleetW x rr).length ≤ 1 := by
  unfold fleetW
  split <;> split <;> simp
theorem routeW_len (x : Ins) (i : Nat) (r : List Int) : (routeW x i r).length ≤ 2 + r.length := by
  have := loadW_len x i r
  have := lateW_len x i r
  have := pairsW_len x i r r.length
  unfold routeW
  rw [List.length_append]
  split
  · simp; omega
  · rw [List.length_append]
    split
    · simp; omega
    · omega
theorem routesW_len (x : Ins) : ∀ (rr : Rts) (i : Nat), (routesW x i rr).length ≤ 2 * rr.length + many rr
  | [], _ => Nat.zero_le _
  | r :: rr, i => by
    have := routeW_len x i r
    have := routesW_len x rr (i + 1)
    rw [routesW, List.length_append, many_cons, List.length_cons]; omega
theorem cnts_low {lo : Nat} {rr : Rts} : ∀ {n : Nat}, n ≤ lo → cnts lo rr n = []
  | 0, _ => rfl
  | n + 1, h => by rw [cnts, cnts_low (by omega), if_neg (by omega)]; rfl
theorem unks_take {x : Ins} {rr : Rts} {a : Nat} {l : List Int} (h : rr[a]? = some l) : unks x 0 (rr.take (a + 1)) = unks x 0 (rr.take a) ++ unkR x a l := by
  have ha := (List.getElem?_eq_some_iff.1 h).1
  have e : rr.take (a + 1) = rr.take a ++ [l] := by rw [List.take_add_one, h]; rfl
  rw [e, unks_snoc, List.length_take, Nat.min_eq_left (by omega), Nat.zero_add]
theorem routesW_take {x : Ins} {rr : Rts} {a : Nat} {l : List Int} (h : rr[a]? = some l) : routesW x 0 (rr.take (a + 1)) = routesW x 0 (rr.take a) ++ routeW x a l := by
  have ha := (List.getElem?_eq_some_iff.1 h).1
  have e : rr.take (a + 1) = rr.take a ++ [l] := by rw [List.take_add_one, h]; rfl
  rw [e, routesW_snoc, List.length_take, Nat.min_eq_left (by omega), Nat.zero_add]
theorem unkR_nodes {x : Ins} {r : List Int} {i : Nat} (h : unkR x i r = []) : nodesB x r = true := by
  unfold unkR at h
  rw [List.map_eq_nil_iff, List.filter_eq_nil_iff] at h
  refine List.all_eq_true.2 fun s hs => ?_
  have := h s hs
  simp only [badB, Bool.or_eq_true, decide_eq_true_eq, not_or] at this
  simp [nodeB]; omega
theorem unks_nodes {x : Ins} : ∀ {rr : Rts} {i : Nat}, unks x i rr = [] → ∀ r ∈ rr, nodesB x r = true
  | [], _, _, r, hr => by cases hr
  | a :: rr, i, h, r, hr => by
    rw [unks, List.append_eq_nil_iff] at h
    rcases List.mem_cons.1 hr with rfl | hr
    · exact unkR_nodes h.1
    · exact unks_nodes h.2 r hr
end Go.Feas
namespace Go.Proofs
open Go.RowKit Go.Shelf Go.Canon Go.Feas Go.Plans
attribute [local go_sem] Oper.semAt_some
attribute [local go_sem ↓] Go.wp_at_zero Go.wp_at_succ
theorem two_rows {W : World} {b1 b2 s1 s2 n1 n2 : Nat} {e1 e2 : TypeId} {v1 v2 : Value} {xs1 xs2 : List Value} (h1 : W.ownsRow b1 e1 s1 v1 n1 xs1) (h2 : W.ownsRow b2 e2 s2 v2 n2 xs2) (he : e1 ≠ e2) : v1.ownBlock = none ∨ v1.ownBlock ≠ v2.ownBlock := by
  rcases h1.2 with ⟨rfl, _⟩ | ⟨g, cap, cur, rfl, _, hg, _⟩
  · exact .inl rfl
  · refine .inr fun e => ?_
    rcases h2.2 with ⟨rfl, _⟩ | ⟨g2, cap2, cur2, rfl, _, hg2, _⟩
    · simp [Value.ownBlock] at e
    · have : g = g2 := by simpa [Value.ownBlock] using e
      subst this
      rw [hg] at hg2
      cases hg2
      exact he rfl
/-- An instance and a plan in their boxes, and a row of wrongs of a call's own. -/
structure CkS (w : World) (x : Ins) (vn vm vp : Value) (o : Value) (l : List Wr) (W : World) : Prop where
  box : InsBox W w.heap.size x vn vm 40
  pbox : BoxAt W (w.heap.size + 1) vp
  below : Below w.heap.size w W
  row : W.ownsRow (w.heap.size + 2) 66 3 o l.length (l.flatMap wrC)
theorem CkS.next {w W W' : World} {x : Ins} {vn vm vp o : Value} {l : List Wr} (h : CkS w x vn vm vp o l W) (hb : Below W.heap.size W W') : CkS w x vn vm vp o l W' :=
  ⟨h.box.next hb, h.pbox.next hb, h.below.trans (hb.mono h.below.size), fowns_next h.row hb⟩
theorem CkS.drew {w W : World} {x : Ins} {vn vm vp o : Value} {l : List Wr} (h : CkS w x vn vm vp o l W) : CkS w x vn vm vp o l W.drew := ⟨h.box, h.pbox, h.below.drew, h.row⟩
theorem CkS.alloc {w W : World} {x : Ins} {vn vm vp o : Value} {l : List Wr} (h : CkS w x vn vm vp o l W) (ob : Obj) : CkS w x vn vm vp o l (W.alloc ob) := h.next (fbelow_box W ob)
theorem CkS.grow {w W W' : World} {x : Ins} {vn vm vp o o' : Value} {l l' : List Wr} (h : CkS w x vn vm vp o l W) (hg : W.grownBy W' o.ownBlock) (hr : W'.ownsRow (w.heap.size + 2) 66 3 o' l'.length (l'.flatMap wrC)) : CkS w x vn vm vp o' l' W' := by
  refine ⟨h.box.grown (by omega) h.row hg, ⟨?_, Nat.lt_of_lt_of_le h.pbox.2 hg.size⟩, fgrown_below h.below h.below.size (by omega) h.row hg, hr⟩
  exact (World.cell?_of_block (a := ⟨w.heap.size + 1, 0, none⟩) (hg.block (w.heap.size + 1) h.pbox.2 (fun e => by have := (h.row.lt (w.heap.size + 1) e.symm).1; omega))).trans h.pbox.1
theorem CkS.slice {w W : World} {x : Ins} {vn vm vp o : Value} {l : List Wr} (h : CkS w x vn vm vp o l W) : ∃ a c, o = .slice a l.length c := owns_dat h.row
theorem ckS_S {w W : World} {x : Ins} {vn vm vp o : Value} {l : List Wr} (h : CkS w x vn vm vp o l W) : W.cell? ⟨w.heap.size, 0, none⟩ = some (.string x.name) ∧ W.cell? ⟨w.heap.size, 1, none⟩ = some (.int .i64 x.kind) ∧ W.cell? ⟨w.heap.size, 2, none⟩ = some (.int .i64 x.metric) ∧ W.cell? ⟨w.heap.size, 3, none⟩ = some (.int .i64 x.scale) ∧ W.cell? ⟨w.heap.size, 4, none⟩ = some (.int .i64 x.cap) ∧ W.cell? ⟨w.heap.size, 5, none⟩ = some (.int .i64 x.fleet) ∧ W.cell? ⟨w.heap.size, 6, none⟩ = some vn ∧ W.cell? ⟨w.heap.size, 7, none⟩ = some vm ∧ W.cell? ⟨w.heap.size + 1, 0, none⟩ = some vp ∧ CkS w x vn vm vp o l W := by
  obtain ⟨c0, c1, c2, c3, c4, c5, c6, c7⟩ := h.box.cells
  exact ⟨c0, c1, c2, c3, c4, c5, c6, c7, h.pbox.1, h⟩
theorem ckS_R {w W : World} {x : Ins} {vn vm vp o ru : Value} {l : List Wr} {b4 o4 : Nat} (h : CkS w x vn vm vp o l W) (hb4 : b4 < w.heap.size) (hc : w.cell? ⟨b4, o4, none⟩ = some ru) : W.cell? ⟨w.heap.size, 0, none⟩ = some (.string x.name) ∧ W.cell? ⟨w.heap.size, 1, none⟩ = some (.int .i64 x.kind) ∧ W.cell? ⟨w.heap.size, 2, none⟩ = some (.int .i64 x.metric) ∧ W.cell? ⟨w.heap.size, 3, none⟩ = some (.int .i64 x.scale) ∧ W.cell? ⟨w.heap.size, 4, none⟩ = some (.int .i64 x.cap) ∧ W.cell? ⟨w.heap.size, 5, none⟩ = some (.int .i64 x.fleet) ∧ W.cell? ⟨w.heap.size, 6, none⟩ = some vn ∧ W.cell? ⟨w.heap.size, 7, none⟩ = some vm ∧ W.cell? ⟨w.heap.size + 1, 0, none⟩ = some vp ∧ W.cell? ⟨b4, o4, none⟩ = some ru ∧ ∃ o l, CkS w x vn vm vp o l W := by
  obtain ⟨c0, c1, c2, c3, c4, c5, c6, c7⟩ := h.box.cells
  exact ⟨c0, c1, c2, c3, c4, c5, c6, c7, h.pbox.1, (h.below.cell (p := ⟨b4, o4, none⟩) hb4).trans hc, o, l, h⟩
theorem ckS_start (w : World) (x : Ins) (vn vm vp : Value) : CkS w x vn vm vp (.slice (some ⟨w.heap.size + 2, 0, none⟩) 0 0) [] (((w.alloc (.cells #[.string x.name, .int .i64 x.kind, .int .i64 x.metric, .int .i64 x.scale, .int .i64 x.cap, .int .i64 x.fleet, vn, vm] 40)).alloc (.cells #[vp] 42)).alloc (.cells #[] 66)) := by
  have e1 : (w.alloc (.cells #[.string x.name, .int .i64 x.kind, .int .i64 x.metric, .int .i64 x.scale, .int .i64 x.cap, .int .i64 x.fleet, vn, vm] 40)).heap.size = w.heap.size + 1 := by simp
  have e2 : ((w.alloc (.cells #[.string x.name, .int .i64 x.kind, .int .i64 x.metric, .int .i64 x.scale, .int .i64 x.cap, .int .i64 x.fleet, vn, vm] 40)).alloc (.cells #[vp] 42)).heap.size = w.heap.size + 1 + 1 := by simp
  refine ⟨((InsBox.new w x vn vm 40).alloc _).alloc _, ?_, ((fbelow_box w _).alloc (by simp) _).alloc (by simp; omega) _, ?_⟩
  · have h := (BoxAt.new (w.alloc (.cells #[.string x.name, .int .i64 x.kind, .int .i64 x.metric, .int .i64 x.scale, .int .i64 x.cap, .int .i64 x.fleet, vn, vm] 40)) vp 42).next (fbelow_box _ (.cells #[] 66))
    rw [e1] at h
    exact h
  · have h := cowns_empty ((w.alloc (.cells #[.string x.name, .int .i64 x.kind, .int .i64 x.metric, .int .i64 x.scale, .int .i64 x.cap, .int .i64 x.fleet, vn, vm] 40)).alloc (.cells #[vp] 42)) 66 3
    rw [e2] at h
    exact h
set_option maxRecDepth 100000 in
set_option maxHeartbeats 4000000 in
theorem Try.RCheck_any (x : Ins) (vn vm v : Value) (rr : Rts) (w : World) (hx : HasIns w vn vm x) (hg : Fine x) (hl : rr.length ≤ 1000000) (hm : many rr ≤ 1000000) (hv : HasRts w v rr) :
    Calls Try.prog 17 #[insV x vn vm, planV v] w fun e w' => ∃ v', e = .returned v' ∧ HasWrs w' v' (checkW x rr) ∧ Below w.heap.size w w' := by
  obtain ⟨i0, hio, hz0, hz1, hz2⟩ := info_parts Try.info66
  have HI := Lib.hid hio
  have HX := Lib.hid hx
  have hls : ∀ l ∈ rr, l.length ≤ 1000000 := fun l h => by
    obtain ⟨k, hk⟩ := List.mem_iff_getElem?.1 h
    have h1 := many_take hk
    have h2 := many_take_le rr (k + 1)
    omega
  have HCT : Hid (∀ W, HasRts W v rr → Calls Try.prog 34 #[planV v, .int .i64 (x.nodes.length : Int)] W fun e w' => ∃ u, e = .returned u ∧ w'.ownsRow W.heap.size 3 1 u (countL rr x.nodes.length).length ((countL rr x.nodes.length).map intV) ∧ Below W.heap.size W w') := fun W h => (Try.RPlanCount_in v rr x.nodes.length W hg.lo hg.hi (by omega) (fun l h => by have := hls l h; omega) (by omega) h).mono fun _ _ ⟨u, h1, h2, h3⟩ => ⟨u, h1, h2, h3⟩
  have HNM : Hid (∀ W, HasRts W v rr → Calls Try.prog 35 #[planV v] W fun e w' => ∃ u, e = .returned (planV u) ∧ HasRts w' u (normR rr) ∧ Below W.heap.size W w') := fun W h => Try.RPlanNorm_calls v rr W (by omega) (fun l h => by have := hls l h; omega) h
  have HRT := Lib.hid fun u l i W h h1 h2 h3 => Try.rroute_calls x vn vm u l i W h hg h1 h2 h3
  have hun := unks_len x rr 0
  have hcn0 := cnts_len (least x) rr x.nodes.length
  have hhi := hg.hi
  have hlo := hg.lo
  have HK := Lib.hid hg.kind
  have HF := Lib.hid hg.fleet
  obtain ⟨b, off, cn, rfl, _, _, hNo⟩ := hx.all hg.lo
  obtain ⟨am, cm, rfl, _⟩ := hx.matrix.dat
  have HV := Lib.hid hv
  obtain ⟨ap, cp, rfl⟩ := hv.len
  obtain ⟨N, hn⟩ : ∃ n, rr.length = n := ⟨_, rfl⟩
  rw [hn] at hl HV HCT HNM ⊢
  have HN := Lib.hid hn
  obtain ⟨L, hL⟩ : ∃ L, x.nodes.length = L := ⟨_, rfl⟩
  have HL := Lib.hid hL
  have hL0 := Lib.hid hL
  rw [hL] at HX HCT HRT hhi hlo hcn0 ⊢
  have HLS := Lib.hid hls
  unfold planV at HCT HNM ⊢
  unfold insV at HRT ⊢
  clear hx hv hn hL hg hio hNo hls
  have HS0 := Lib.hid (ckS_start w x (.slice (some ⟨b, off, none⟩) L cn) (.slice am x.matrix.length cm) (.slice ap N cp))
  go_enter Try.func17, Try.ntmps17
  obtain ⟨c0, c1, c2, c3, c4, c5, c6, c7⟩ := HS0.out.box.cells
  go_upto_if 17 with (fail)
  obtain ⟨W0, hW0⟩ : ∃ W0, W0 = (((w.alloc (.cells #[.string x.name, .int .i64 x.kind, .int .i64 x.metric, .int .i64 x.scale, .int .i64 x.cap, .int .i64 x.fleet, (.slice (some ⟨b, off, none⟩) L cn), (.slice am x.matrix.length cm)] 40)).alloc (.cells #[(.slice ap N cp)] 42)).alloc (.cells #[] 66)) := ⟨_, rfl⟩
  rw [← hW0] at HS0
  clear c0 c1 c2 c3 c4 c5 c6 c7
  rw [← hW0]
  clear hW0
  go_cut [6] from 15 to 17 (fun q wx => q = .int .i64 (least x : Int) ∧ wx = W0)
  case first =>
    by_cases k1 : x.kind = 1
    · have kb : (x.kind == 1) = true := beq_iff_eq.2 k1
      have e : Hid (least x = 0) := by unfold Hid least; rw [if_pos k1]
      clear k1
      go_wp2
      go_meet
      exact ⟨by rw [e.out]; rfl, rfl⟩
    · have kb : (x.kind == 1) = false := beq_eq_false_iff_ne.2 k1
      have e : Hid (least x = 1) := by unfold Hid least; rw [if_neg k1]
      clear k1
      go_wp2
      go_meet
      exact ⟨by rw [e.out]; rfl, rfl⟩
  case rest =>
    obtain ⟨rfl, rfl⟩ := hcut
    have hle : least x ≤ 1 := by unfold least; split <;> omega
    have HBD : Hid (∀ s : Int, badB x s = (decide (s < (least x : Int)) || decide ((x.nodes.length : Int) ≤ s))) := fun s => rfl
    rw [hL0.out] at HBD
    obtain ⟨lo, hlo0⟩ : ∃ lo, least x = lo := ⟨_, rfl⟩
    rw [hlo0] at HBD hcn0 hle ⊢
    have HLO := Lib.hid hlo0
    clear hlo0
    go_upto_block 0 with (fail)
    go_cut [5] from 18 to 58 (fun o wx => CkS w x (.slice (some ⟨b, off, none⟩) L cn) (.slice am x.matrix.length cm) (.slice ap N cp) o (unks x 0 rr) wx)
    case first =>
      go_wp2_with (fail)
      go_loopw [5, 7] (fun o i wr => ∃ a : Nat, a ≤ N ∧ i = .int .i64 (a : Int) ∧ CkS w x (.slice (some ⟨b, off, none⟩) L cn) (.slice am x.matrix.length cm) (.slice ap N cp) o (unks x 0 (rr.take a)) wr) (fun _ i _ => N - (intOf i).toNat)
      case atStart => exact ⟨0, Nat.zero_le _, rfl, HS0.out⟩
      case round =>
        obtain ⟨a, ha, rfl, hS⟩ := hrel
        have HS := Lib.hid hS
        have hp0 := hS.pbox.1
        clear hS HS0
        by_cases hlt : a < N
        · obtain ⟨l, hp⟩ : ∃ l, rr[a]? = some l := ⟨_, List.getElem?_eq_getElem (by have := HN.out; omega)⟩
          have hai : (a : Int) < (N : Int) := by omega
          have HP := Lib.hid hp
          have HUT := Lib.hid (unks_take (x := x) hp)
          have hul := unks_len x (rr.take a) 0
          have hml := many_take_le rr a
          have hll := HLS.out l (List.mem_of_getElem? hp)
          have hmt := many_take hp
          have hmle := many_take_le rr (a + 1)
          clear hp
          have hp0' := hp0
          obtain ⟨b4, off4, cap4, u4, e4, hbB4, hbw4, hc4, hu4⟩ := HV.out.get HP.out (Nat.le_refl _) HS.out.below
          injection e4 with h1 h2 h3
          subst h1
          subst h3
          clear h2 hbB4
          obtain ⟨a5, c5, rfl⟩ := hu4.len
          obtain ⟨M, hM⟩ : ∃ M, l.length = M := ⟨_, rfl⟩
          rw [hM] at hll hmt hu4
          rw [hM] at hc4
          have HM := Lib.hid hM
          clear hM
          go_wp2_with (fail)
          clear hp0 hp0' hc4 hu4 hbw4
          go_loopw [5, 8] (fun o kk w2 => ∃ q : Nat, q ≤ M ∧ kk = .int .i64 (q : Int) ∧ CkS w x (.slice (some ⟨b, off, none⟩) L cn) (.slice am x.matrix.length cm) (.slice (some ⟨b4, off4, none⟩) N cp) o (unks x 0 (rr.take a) ++ unkR x a (l.take q)) w2) (fun _ kk _ => M - (intOf kk).toNat)
          case atStart => exact ⟨0, Nat.zero_le _, rfl, by show CkS _ _ _ _ _ _ (unks x 0 (rr.take a) ++ []) _; rw [List.append_nil]; exact HS.out⟩
          case round =>
            obtain ⟨q, hq, rfl, hS2⟩ := hrel
            have HS2 := Lib.hid hS2
            obtain ⟨c0, c1, c2, c3, c4, c5, c6, c7, hp0, -⟩ := ckS_S hS2
            obtain ⟨b6, off6, cap6, u6, e6, hbB6, hbw6, hc6, hu6⟩ := HV.out.get HP.out (Nat.le_refl _) HS2.out.below
            injection e6 with h1 h2 h3
            injection h1 with h1
            injection h1 with h1 h5
            subst h1; subst h5; subst h3
            clear h2 hbB6 hS2
            have hunk := unkR_len x a (l.take q)
            rw [List.length_take] at hunk
            by_cases hlt2 : q < M
            · obtain ⟨s, hs⟩ : ∃ s, l[q]? = some s := ⟨_, List.getElem?_eq_getElem (by have := HM.out; omega)⟩
              have hqi : (q : Int) < (M : Int) := by omega
              obtain ⟨b7, off7, cap7, rfl, _, _, hbw7, hc7⟩ := hu6.atc hs
              rw [HM.out] at hc6
              have HQ : Hid (unks x 0 (rr.take a) ++ unkR x a (l.take (q + 1)) = (unks x 0 (rr.take a) ++ unkR x a (l.take q)) ++ if badB x s = true then [((1, (a : Int), s) : Wr)] else []) := by
                unfold Hid; rw [ptake_snoc hs, unkR_snoc, List.append_assoc]
              have hs2 : w.heap.size + 2 ≤ wr.heap.size := HS2.out.pbox.2
              have hlk : (unks x 0 (rr.take a) ++ unkR x a (l.take q)).length ≤ 1000000 := by rw [List.length_append]; omega
              clear hs hu6 hunk hul hml hmt hmle
              generalize unks x 0 (rr.take a) ++ unkR x a (l.take q) = lk at *
              by_cases hb1 : s < (lo : Int)
              · have hbb : badB x s = true := by rw [HBD.out, decide_eq_true hb1]; rfl
                have HQ2 : Hid (unks x 0 (rr.take a) ++ unkR x a (l.take (q + 1)) = lk ++ [((1, (a : Int), s) : Wr)]) := by unfold Hid; rw [HQ.out, hbb, if_pos rfl]
                clear HQ
                go_wp2_with (at_builtin; refine wpList_append_own _ rfl _ _ 35 rfl (w.heap.size + 2) 66 i0 (.agg #[.int .i64 0, .int .i64 0, .int .i64 0]) 3 24 Try.underlying35 HI.out hz0 hz1 hz2 rfl (by decide) _ _ _ rfl (HS2.out.row.alloc _) ⟨wr.heap.size, 0, none⟩ 1 1 (wrC ((1, (a : Int), s) : Wr)) rfl rfl (cells_wr wr _ _ _ 66) (by simp [Value.oneCell', wrC]) (by unfold maxLen; omega) (by omega) (by simp; omega) ?_; intro v' w6 hown' hgrow _; have HS6 : Hid (CkS w x (.slice (some ⟨b, off, none⟩) L cn) (.slice am x.matrix.length cm) (.slice (some ⟨b4, off4, none⟩) N cp) v' (lk ++ [((1, (a : Int), s) : Wr)]) w6) := ((HS2.out.alloc _).grow hgrow (by rw [List.length_append, flat_snoc]; exact hown')); clear hown' hgrow)
                go_roundw
                case rel => exact ⟨q + 1, by omega, by go_num, by rw [HQ2.out]; exact HS6.out⟩
                case measure => simp [intOf]; omega
              · by_cases hb2 : (L : Int) ≤ s
                · have hbb : badB x s = true := by rw [HBD.out, decide_eq_true hb2, Bool.or_true]
                  have HQ2 : Hid (unks x 0 (rr.take a) ++ unkR x a (l.take (q + 1)) = lk ++ [((1, (a : Int), s) : Wr)]) := by unfold Hid; rw [HQ.out, hbb, if_pos rfl]
                  clear HQ
                  go_wp2_with (at_builtin; refine wpList_append_own _ rfl _ _ 35 rfl (w.heap.size + 2) 66 i0 (.agg #[.int .i64 0, .int .i64 0, .int .i64 0]) 3 24 Try.underlying35 HI.out hz0 hz1 hz2 rfl (by decide) _ _ _ rfl (HS2.out.row.alloc _) ⟨wr.heap.size, 0, none⟩ 1 1 (wrC ((1, (a : Int), s) : Wr)) rfl rfl (cells_wr wr _ _ _ 66) (by simp [Value.oneCell', wrC]) (by unfold maxLen; omega) (by omega) (by simp; omega) ?_; intro v' w6 hown' hgrow _; have HS6 : Hid (CkS w x (.slice (some ⟨b, off, none⟩) L cn) (.slice am x.matrix.length cm) (.slice (some ⟨b4, off4, none⟩) N cp) v' (lk ++ [((1, (a : Int), s) : Wr)]) w6) := ((HS2.out.alloc _).grow hgrow (by rw [List.length_append, flat_snoc]; exact hown')); clear hown' hgrow)
                  go_roundw
                  case rel => exact ⟨q + 1, by omega, by go_num, by rw [HQ2.out]; exact HS6.out⟩
                  case measure => simp [intOf]; omega
                · have hbb : badB x s = false := by rw [HBD.out, decide_eq_false hb1, decide_eq_false hb2]; rfl
                  have HQ2 : Hid (unks x 0 (rr.take a) ++ unkR x a (l.take (q + 1)) = lk) := by unfold Hid; rw [HQ.out, hbb, if_neg (by decide), List.append_nil]
                  clear HQ
                  go_wp2
                  go_roundw
                  case rel => exact ⟨q + 1, by omega, by go_num, by rw [HQ2.out]; exact HS2.out⟩
                  case measure => simp [intOf]; omega
            · obtain rfl : q = M := by omega
              obtain ⟨a8, c8, rfl⟩ := hu6.len
              rw [HM.out] at hc6
              have HQ2 : Hid (unks x 0 (rr.take (a + 1)) = unks x 0 (rr.take a) ++ unkR x a (l.take q)) := by unfold Hid; rw [HUT.out, show l.take q = l from List.take_of_length_le (by rw [HM.out]; exact Nat.le_refl _)]
              clear hu6
              go_wp2
              go_roundw
              case rel => exact ⟨a + 1, by omega, by go_num, by rw [HQ2.out]; exact HS2.out⟩
              case measure => simp [intOf]; omega
        · obtain rfl : a = N := by omega
          have e : Hid (unks x 0 (rr.take a) = unks x 0 rr) := by unfold Hid; rw [List.take_of_length_le (by rw [HN.out]; exact Nat.le_refl _)]
          go_wp2
          go_meet
          rw [← e.out]
          exact HS.out
    case rest =>
      have HS1 := Lib.hid hcut
      obtain ⟨c0, c1, c2, c3, c4, c5, c6, c7, hp0, -⟩ := ckS_S hcut
      obtain ⟨ao, co, rfl⟩ := hcut.slice
      clear hcut HS0
      by_cases hu : unks x 0 rr = []
      · rw [hu] at HS1 ⊢
        have HUN := Lib.hid (unks_nodes hu)
        have HCK : Hid (checkW x rr = cnts lo rr L ++ (fleetW x rr ++ if x.kind = 1 then [] else routesW x 0 rr)) := by
          unfold Hid checkW
          rw [if_neg (by rw [hu]; simp), HLO.out, HL.out]
        clear hu hun HBD
        simp only [List.length_nil]
        go_upto_region 17 with (go_at_call 34; (with_reducible refine (HCT.out _ (HV.out.next HS1.out.below)).mono ?_); rintro e w1 ⟨u1, rfl, hu1, hb1⟩; have HS2 := Lib.hid (HS1.out.next hb1); have HU1 := Lib.hid hu1; obtain ⟨a1, n1, rfl⟩ := owns_dat hu1; clear hu1 hb1 c0 c1 c2 c3 c4 c5 c6 c7 hp0)
        have HCL := Lib.hid (countL_len rr L)
        rw [HCL.out] at HU1
        simp only [HCL.out]
        have HUI : Hid (∀ (W : World) (B : Nat) (u : Value), W.ownsRow B 3 1 u L ((countL rr L).map intV) → HasInts W u (countL rr L)) := fun W B u h => by
          have e := HCL.out
          rw [← e] at h
          exact hasInts_of_owns (by rw [e] at h ⊢; exact h)
        obtain ⟨w0, hw0⟩ : ∃ w0, w0 = wc := ⟨_, rfl⟩
        rw [← hw0] at HU1
        clear hw0
        go_upto_block 4 with (fail)
        go_cut [5] from 69 to 97 (fun o wx => CkS w x (.slice (some ⟨b, off, none⟩) L cn) (.slice am x.matrix.length cm) (.slice ap N cp) o (cnts lo rr L) wx)
        case first =>
          go_wp2_with (fail)
          go_loopw [5, 11] (fun o cc wr => ∃ c : Nat, lo ≤ c ∧ c ≤ L ∧ cc = .int .i64 (c : Int) ∧ CkS w x (.slice (some ⟨b, off, none⟩) L cn) (.slice am x.matrix.length cm) (.slice ap N cp) o (cnts lo rr c) wr ∧ wr.ownsRow w0.heap.size 3 1 (.slice a1 L n1) L ((countL rr L).map intV)) (fun _ cc _ => L - (intOf cc).toNat)
          case atStart => exact ⟨lo, Nat.le_refl _, by omega, rfl, by rw [cnts_low (Nat.le_refl lo)]; exact HS2.out, HU1.out⟩
          case round =>
            obtain ⟨c, hc0, hc, rfl, hS, hC⟩ := hrel
            have HS4 := Lib.hid hS
            have HC4 := Lib.hid hC
            obtain ⟨c0, c1, c2, c3, c4, c5, c6, c7, hp0, -⟩ := ckS_S hS
            clear hS HS2 HU1
            have hcl := cnts_len lo rr c
            by_cases hlt : c < L
            · have hci : (c : Int) < (L : Int) := by omega
              have hcc : (countL rr L)[c]? = some (countR rr (c : Int) : Int) := by rw [← cntL_flat, cntL_get _ hlt, countR_flat]
              have HCC := Lib.hid hcc
              obtain ⟨b8, off8, cap8, e8, _, _, hbw8, hc8⟩ := (HUI.out _ _ _ hC).atc hcc
              injection e8 with e1 e2 e3
              subst e1
              subst e3
              clear e2 hC hcc
              have HQ : Hid (cnts lo rr (c + 1) = cnts lo rr c ++ cntW c (countR rr (c : Int))) := by unfold Hid; rw [cnts, if_pos hc0]
              have hs2 : w.heap.size + 2 ≤ wr.heap.size := HS4.out.pbox.2
              have HKC : Hid (∀ (o : Obj) (w6 : World), (wr.alloc o).grownBy w6 u5.ownBlock → w6.ownsRow w0.heap.size 3 1 (.slice (some ⟨b8, off8, none⟩) L n1) L ((countL rr L).map intV) ∧ w6.cell? ⟨b8, off8 + c, none⟩ = some (.int .i64 (countR rr (c : Int) : Int))) := fun o w6 hg => by
                have h := (HC4.out.alloc o).kept hg (two_rows (HC4.out.alloc o) (HS4.out.row.alloc o) (by decide))
                refine ⟨h, ?_⟩
                obtain ⟨b9, off9, cap9, e9, _, _, _, h9⟩ := (HUI.out _ _ _ h).atc HCC.out
                injection e9 with e1 e2 e3
                injection e1 with e1
                injection e1 with e4 e5
                subst e4
                subst e5
                exact h9
              generalize cnts lo rr c = lk at *
              generalize countR rr (c : Int) = q at *
              by_cases h1 : 1 < q
              · clear c0 c1 c2 c3 c4 c5 c7 hp0
                have hcw : cntW c q = [((2, 0, (c : Int)) : Wr)] := by unfold cntW; rw [if_pos h1]
                have k1 : (1 : Int) < (q : Int) := by omega
                have k2 : ((q : Int) == 0) = false := beq_eq_false_iff_ne.2 (by omega)
                have HQ2 : Hid (cnts lo rr (c + 1) = lk ++ [((2, 0, (c : Int)) : Wr)]) := by unfold Hid; rw [HQ.out, hcw]
                clear HQ hcw
                go_wp2_with (at_builtin; refine wpList_append_own _ rfl _ _ 35 rfl (w.heap.size + 2) 66 i0 (.agg #[.int .i64 0, .int .i64 0, .int .i64 0]) 3 24 Try.underlying35 HI.out hz0 hz1 hz2 rfl (by decide) _ _ _ rfl (HS4.out.row.alloc _) ⟨wr.heap.size, 0, none⟩ 1 1 (wrC ((2, 0, (c : Int)) : Wr)) rfl rfl (cells_wr wr _ _ _ 66) (by simp [Value.oneCell', wrC]) (by unfold maxLen; omega) (by omega) (by simp; omega) ?_; intro v' w6 hown' hgrow _; have HS6 : Hid (CkS w x (.slice (some ⟨b, off, none⟩) L cn) (.slice am x.matrix.length cm) (.slice ap N cp) v' (lk ++ [((2, 0, (c : Int)) : Wr)]) w6) := ((HS4.out.alloc _).grow hgrow (by rw [List.length_append, flat_snoc]; exact hown')); obtain ⟨hc6, hi6⟩ := HKC.out _ _ hgrow; have HC6 := Lib.hid hc6; obtain ⟨-, -, -, -, -, -, c6, -, -, -⟩ := ckS_S HS6.out; clear hc6 hown' hgrow)
                go_roundw
                case rel => exact ⟨c + 1, by omega, by omega, by go_num, by rw [HQ2.out]; exact HS6.out, HC6.out⟩
                case measure => simp [intOf]; omega
              · by_cases h2 : q = 0
                · subst h2
                  clear c0 c1 c2 c3 c4 c5 c7 hp0 h1
                  have hcw : cntW c 0 = [((3, 0, (c : Int)) : Wr)] := rfl
                  have HQ2 : Hid (cnts lo rr (c + 1) = lk ++ [((3, 0, (c : Int)) : Wr)]) := by unfold Hid; rw [HQ.out, hcw]
                  clear HQ hcw
                  go_wp2_with (at_builtin; refine wpList_append_own _ rfl _ _ 35 rfl (w.heap.size + 2) 66 i0 (.agg #[.int .i64 0, .int .i64 0, .int .i64 0]) 3 24 Try.underlying35 HI.out hz0 hz1 hz2 rfl (by decide) _ _ _ rfl (HS4.out.row.alloc _) ⟨wr.heap.size, 0, none⟩ 1 1 (wrC ((3, 0, (c : Int)) : Wr)) rfl rfl (cells_wr wr _ _ _ 66) (by simp [Value.oneCell', wrC]) (by unfold maxLen; omega) (by omega) (by simp; omega) ?_; intro v' w6 hown' hgrow _; have HS6 : Hid (CkS w x (.slice (some ⟨b, off, none⟩) L cn) (.slice am x.matrix.length cm) (.slice ap N cp) v' (lk ++ [((3, 0, (c : Int)) : Wr)]) w6) := ((HS4.out.alloc _).grow hgrow (by rw [List.length_append, flat_snoc]; exact hown')); obtain ⟨hc6, hi6⟩ := HKC.out _ _ hgrow; have HC6 := Lib.hid hc6; obtain ⟨-, -, -, -, -, -, c6, -, -, -⟩ := ckS_S HS6.out; clear hc6 hown' hgrow)
                  go_roundw
                  case rel => exact ⟨c + 1, by omega, by omega, by go_num, by rw [HQ2.out]; exact HS6.out, HC6.out⟩
                  case measure => simp [intOf]; omega
                · clear c0 c1 c2 c3 c4 c5 c7 hp0
                  have hcw : cntW c q = [] := by unfold cntW; rw [if_neg h1, if_neg h2]
                  have k1 : ¬ (1 : Int) < (q : Int) := by omega
                  have k2 : ((q : Int) == 0) = false := beq_eq_false_iff_ne.2 (by omega)
                  have HQ2 : Hid (cnts lo rr (c + 1) = lk) := by unfold Hid; rw [HQ.out, hcw, List.append_nil]
                  clear HQ hcw
                  go_wp2
                  go_roundw
                  case rel => exact ⟨c + 1, by omega, by omega, by go_num, by rw [HQ2.out]; exact HS4.out, HC4.out⟩
                  case measure => simp [intOf]; omega
            · obtain rfl : c = L := by omega
              go_wp2
              go_meet
              exact HS4.out
        case rest =>
          have HS6 := Lib.hid hcut
          obtain ⟨c0, c1, c2, c3, c4, c5, c6, c7, hp0, -⟩ := ckS_S hcut
          clear hcut HS1 HS2 HU1 HUI HCT
          have hfld : ∀ (v : Value) (W : World), (Instr.field 42 (.agg #[v]) 0).run Try.prog W = .ok v W := fun _ _ => by kernel_rfl
          go_upto_if 102 with (go_at_call 35; (with_reducible refine (HNM.out _ (HV.out.next HS6.out.below)).mono ?_); rintro e w3 ⟨u3, rfl, hu3, hb3⟩; have HS7 := Lib.hid (HS6.out.next hb3); obtain ⟨a3, n3, rfl⟩ := hu3.len; clear hu3 hb3 c0 c1 c2 c3 c4 c5 c6 c7 hp0; obtain ⟨c0, c1, c2, c3, c4, c5, c6, c7, hp0, -⟩ := ckS_S HS7.out)
          clear HS6 HNM
          have hFF := normR_len rr
          rw [HN.out] at hFF
          obtain ⟨F, hF⟩ : ∃ F, (normR rr).length = F := ⟨_, rfl⟩
          rw [hF] at hFF ⊢
          have HFF : Hid (full rr = F) := hF
          clear hF
          have hs3 : w.heap.size + 2 ≤ w3.heap.size := HS7.out.pbox.2
          by_cases k1 : x.kind = 1
          · have kb : (x.kind == 1) = true := beq_iff_eq.2 k1
            rw [if_pos k1, List.append_nil] at HCK
            have HFW : Hid (fleetW x rr = if F ≠ 1 then [((4, 0, (F : Int)) : Wr)] else []) := by unfold Hid fleetW; rw [if_pos k1, HFF.out]
            clear k1 HRT HUN HLS
            by_cases h1 : F = 1
            · have hb1 : ((F : Int) != 1) = false := by rw [bne_eq_false_iff_eq]; omega
              rw [if_neg (fun h => h h1)] at HFW
              have HE : Hid (HasWrs w3 u5 (checkW x rr)) := by rw [HCK.out, HFW.out, List.append_nil]; exact wrs_of_owns HS7.out.row
              clear h1 HCK HFW
              go_wp2
              go_ret
              exact ⟨_, rfl, HE.out, HS7.out.below⟩
            · have hb1 : ((F : Int) != 1) = true := bne_iff_ne.2 (by omega)
              rw [if_pos h1] at HFW
              have HCK2 : Hid (checkW x rr = cnts lo rr L ++ [((4, 0, (F : Int)) : Wr)]) := by unfold Hid; rw [HCK.out, HFW.out]
              clear h1 HCK HFW
              generalize cnts lo rr L = lk at *
              go_wp2_with (at_builtin; refine wpList_append_own _ rfl _ _ 35 rfl (w.heap.size + 2) 66 i0 (.agg #[.int .i64 0, .int .i64 0, .int .i64 0]) 3 24 Try.underlying35 HI.out hz0 hz1 hz2 rfl (by decide) _ _ _ rfl (HS7.out.row.alloc _) ⟨w3.heap.size, 0, none⟩ 1 1 (wrC ((4, 0, (F : Int)) : Wr)) rfl rfl (cells_wr w3 _ _ _ 66) (by simp [Value.oneCell', wrC]) (by unfold maxLen; omega) (by omega) (by simp; omega) ?_; intro v' w6 hown' hgrow _; have HS6 : Hid (CkS w x (.slice (some ⟨b, off, none⟩) L cn) (.slice am x.matrix.length cm) (.slice ap N cp) v' (lk ++ [((4, 0, (F : Int)) : Wr)]) w6) := ((HS7.out.alloc _).grow hgrow (by rw [List.length_append, flat_snoc]; exact hown')); clear hown' hgrow)
              have HE : Hid (HasWrs w6 v' (checkW x rr)) := by rw [HCK2.out]; exact wrs_of_owns HS6.out.row
              clear HCK2
              go_ret
              exact ⟨_, rfl, HE.out, HS6.out.below⟩
          · have kb : (x.kind == 1) = false := beq_eq_false_iff_ne.2 k1
            rw [if_neg k1] at HCK
            have HFW : Hid (fleetW x rr = if 0 < x.fleet ∧ x.fleet < (F : Int) then [((4, 0, (F : Int)) : Wr)] else []) := by unfold Hid fleetW; rw [if_neg k1, HFF.out]
            clear k1
            have hfw1 := fleetW_len x rr
            go_upto_region 29 with (fail)
            go_cut [119] from 102 to 119 (fun t wx => t = .bool (decide (0 < x.fleet) && decide (x.fleet < (F : Int))) ∧ wx = w3)
            case first =>
              by_cases h1 : 0 < x.fleet
              · by_cases h2 : x.fleet < (F : Int)
                · have e : Hid ((decide (0 < x.fleet) && decide (x.fleet < (F : Int))) = true) := by unfold Hid; rw [decide_eq_true h1, decide_eq_true h2]; rfl
                  go_wp2
                  go_meet
                  exact ⟨by rw [e.out], rfl⟩
                · have e : Hid ((decide (0 < x.fleet) && decide (x.fleet < (F : Int))) = false) := by unfold Hid; rw [decide_eq_true h1, decide_eq_false h2]; rfl
                  go_wp2
                  go_meet
                  exact ⟨by rw [e.out], rfl⟩
              · have e : Hid ((decide (0 < x.fleet) && decide (x.fleet < (F : Int))) = false) := by unfold Hid; rw [decide_eq_false h1]; rfl
                go_wp2
                go_meet
                exact ⟨by rw [e.out], rfl⟩
            case rest =>
              obtain ⟨rfl, rfl⟩ := hcut
              generalize cnts lo rr L = lk at *
              go_upto_if 119 with (fail)
              go_cut [5] from 102 to 124 (fun o wx => CkS w x (.slice (some ⟨b, off, none⟩) L cn) (.slice am x.matrix.length cm) (.slice ap N cp) o (lk ++ fleetW x rr) wx)
              case first =>
                by_cases h1 : 0 < x.fleet ∧ x.fleet < (F : Int)
                · have hif := Lib.hid h1
                  rw [decide_eq_true h1.1, decide_eq_true h1.2]
                  have hsc : w.heap.size + 2 ≤ wc.heap.size := HS7.out.pbox.2
                  simp only [Bool.and_true]
                  go_wp2_with (at_builtin; refine wpList_append_own _ rfl _ _ 35 rfl (w.heap.size + 2) 66 i0 (.agg #[.int .i64 0, .int .i64 0, .int .i64 0]) 3 24 Try.underlying35 HI.out hz0 hz1 hz2 rfl (by decide) _ _ _ rfl (HS7.out.row.alloc _) ⟨wc.heap.size, 0, none⟩ 1 1 (wrC ((4, 0, (F : Int)) : Wr)) rfl rfl (cells_wr wc _ _ _ 66) (by simp [Value.oneCell', wrC]) (by unfold maxLen; omega) (by omega) (by simp; omega) ?_; intro v' w6 hown' hgrow _; have HS6 : Hid (CkS w x (.slice (some ⟨b, off, none⟩) L cn) (.slice am x.matrix.length cm) (.slice ap N cp) v' (lk ++ [((4, 0, (F : Int)) : Wr)]) w6) := ((HS7.out.alloc _).grow hgrow (by rw [List.length_append, flat_snoc]; exact hown')); clear hown' hgrow)
                  go_meet
                  rw [HFW.out, if_pos hif.out]
                  exact HS6.out
                · have hif := Lib.hid h1
                  have hb : (decide (0 < x.fleet) && decide (x.fleet < (F : Int))) = false := by
                    rw [Bool.and_eq_false_iff, decide_eq_false_iff_not, decide_eq_false_iff_not]; omega
                  rw [hb]
                  go_wp2
                  go_meet
                  rw [HFW.out, if_neg hif.out, List.append_nil]
                  exact HS7.out
              case rest =>
                have HS8 := Lib.hid hcut
                have hl8 : (lk ++ fleetW x rr).length ≤ 401 := by rw [List.length_append]; omega
                have HCK3 : Hid (checkW x rr = (lk ++ fleetW x rr) ++ routesW x 0 rr) := by unfold Hid; rw [List.append_assoc]; exact HCK.out
                clear hcut HS7 HCK HFW c0 c1 c2 c3 c4 c5 c6 c7 hp0
                generalize lk ++ fleetW x rr = l8 at *
                go_wp2_with (fail)
                go_loopw [5, 13] (fun o ii wr => ∃ a : Nat, a ≤ N ∧ ii = .int .i64 (a : Int) ∧ CkS w x (.slice (some ⟨b, off, none⟩) L cn) (.slice am x.matrix.length cm) (.slice ap N cp) o (l8 ++ routesW x 0 (rr.take a)) wr) (fun _ ii _ => N - (intOf ii).toNat)
                case atStart => exact ⟨0, Nat.zero_le _, rfl, by show CkS _ _ _ _ _ _ (l8 ++ []) _; rw [List.append_nil]; exact HS8.out⟩
                case round =>
                  obtain ⟨a, ha, rfl, hS⟩ := hrel
                  have HS := Lib.hid hS
                  have hp0 := hS.pbox.1
                  clear hS HS8
                  by_cases hlt : a < N
                  · obtain ⟨l, hp⟩ : ∃ l, rr[a]? = some l := ⟨_, List.getElem?_eq_getElem (by have := HN.out; omega)⟩
                    have hai : (a : Int) < (N : Int) := by omega
                    have HP := Lib.hid hp
                    have HUT : Hid (l8 ++ routesW x 0 (rr.take (a + 1)) = (l8 ++ routesW x 0 (rr.take a)) ++ routeW x a l) := by unfold Hid; rw [routesW_take hp, List.append_assoc]
                    have hul := routesW_len x (rr.take a) 0
                    have hml := many_take_le rr a
                    have hrl := routeW_len x a l
                    have hll := HLS.out l (List.mem_of_getElem? hp)
                    have hnb := HUN.out l (List.mem_of_getElem? hp)
                    rw [List.length_take] at hul
                    have hlk : (l8 ++ routesW x 0 (rr.take a)).length ≤ 4000000 := by rw [List.length_append]; omega
                    clear hp hul hml
                    obtain ⟨b4, off4, cap4, u4, e4, hbB4, hbw4, hc4, hu4⟩ := HV.out.get HP.out (Nat.le_refl _) (Below.refl _ _)
                    injection e4 with h1 h2 h3
                    subst h1
                    subst h3
                    clear h2 hbw4
                    obtain ⟨a5, c5, rfl⟩ := hu4.len
                    have HU4 := Lib.hid hu4
                    obtain ⟨M, hM⟩ : ∃ M, l.length = M := ⟨_, rfl⟩
                    rw [hM] at HU4 hc4
                    have HC4 := Lib.hid hc4
                    have HRT2 := Lib.hid (fun W h k => HRT.out (.slice a5 M c5) l a W h hll hnb k)
                    clear hM hu4 hc4 HRT
                    generalize l8 ++ routesW x 0 (rr.take a) = lk at *
                    go_wp2_with (fail)
                    go_region_held_law (fun W => W.cell? ⟨w.heap.size, 0, none⟩ = some (.string x.name) ∧ W.cell? ⟨w.heap.size, 1, none⟩ = some (.int .i64 x.kind) ∧ W.cell? ⟨w.heap.size, 2, none⟩ = some (.int .i64 x.metric) ∧ W.cell? ⟨w.heap.size, 3, none⟩ = some (.int .i64 x.scale) ∧ W.cell? ⟨w.heap.size, 4, none⟩ = some (.int .i64 x.cap) ∧ W.cell? ⟨w.heap.size, 5, none⟩ = some (.int .i64 x.fleet) ∧ W.cell? ⟨w.heap.size, 6, none⟩ = some (.slice (some ⟨b, off, none⟩) L cn) ∧ W.cell? ⟨w.heap.size, 7, none⟩ = some (.slice am x.matrix.length cm) ∧ W.cell? ⟨w.heap.size + 1, 0, none⟩ = some (.slice (some ⟨b4, off4, none⟩) N cp) ∧ W.cell? ⟨b4, off4 + a, none⟩ = some (.slice a5 M c5) ∧ ∃ o l, CkS w x (.slice (some ⟨b, off, none⟩) L cn) (.slice am x.matrix.length cm) (.slice (some ⟨b4, off4, none⟩) N cp) o l W)
                      ((go_split_ands; (first | exact ckS_R HS.out.drew hbB4 HC4.out | exact ckS_R HS9.out hbB4 HC4.out | exact ckS_R (HS.out.drew.next (by assumption)) hbB4 HC4.out)))
                      (first
                        | (go_at_call 36; (with_reducible refine (HRT2.out _ (HX.out.next HS.out.drew.below) (HU4.out.next HS.out.drew.below)).mono ?_); rintro e w7 ⟨v7, rfl, hr7, hb7⟩)
                        | (refine step_append_row rfl (.tmp 132) (.tmp 140) 35 rfl (w.heap.size + 2) 66 i0 (.agg #[.int .i64 0, .int .i64 0, .int .i64 0]) 3 24 Try.underlying35 HI.out hz0 hz1 hz2 rfl (by decide) u5 lk.length (lk.flatMap wrC) rfl (fowns_next HS.out.row.drew hb7) (wr.heap.size + 1) v7 (routeW x a l).length ((routeW x a l).flatMap wrC) rfl hr7 (wrC_one _) (by unfold maxLen; omega) (by omega) ((HS.out.drew.next hb7).pbox.2) ?_; intro v' w8 hown' hgrow; have HS9 : Hid (CkS w x (.slice (some ⟨b, off, none⟩) L cn) (.slice am x.matrix.length cm) (.slice (some ⟨b4, off4, none⟩) N cp) v' (lk ++ routeW x a l) w8) := (HS.out.drew.next hb7).grow hgrow (by rw [List.length_append, List.flatMap_append]; exact hown'); clear hown' hgrow))
                    rename_i hh
                    have HSF : Hid (CkS w x (.slice (some ⟨b, off, none⟩) L cn) (.slice am x.matrix.length cm) (.slice (some ⟨b4, off4, none⟩) N cp) v' (l8 ++ routesW x 0 (rr.take (a + 1))) w8) := by rw [HUT.out]; exact HS9.out
                    clear hh HS9 hr7 hb7 HRT2 HUT hp0 HS
                    dsimp only [List.getElem_toArray, List.getElem_cons_succ, List.getElem_cons_zero, Act.put]
                    simp only [List.set_cons_zero, List.set_cons_succ]
                    go_wp2
                    go_roundw
                    case rel => exact ⟨a + 1, by omega, by go_num, HSF.out⟩
                    case measure => simp [intOf]; omega
                  · obtain rfl : a = N := by omega
                    have e : Hid (l8 ++ routesW x 0 (rr.take a) = checkW x rr) := by unfold Hid; rw [HCK3.out, List.take_of_length_le (by rw [HN.out]; exact Nat.le_refl _)]
                    have HE : Hid (HasWrs wr u5 (checkW x rr)) := by rw [← e.out]; exact wrs_of_owns HS.out.row
                    clear e HCK3
                    go_wp2
                    go_ret
                    exact ⟨_, rfl, HE.out, HS.out.below⟩
      · have HE : Hid (checkW x rr = unks x 0 rr) := by unfold Hid checkW; rw [if_pos hu]
        have hpos : 0 < (unks x 0 rr).length := List.length_pos_iff.2 hu
        have HR : Hid (HasWrs wc (.slice ao (unks x 0 rr).length co) (checkW x rr)) := by rw [HE.out]; exact wrs_of_owns HS1.out.row
        clear hu
        generalize (unks x 0 rr).length = Z at *
        have hpi : (0 : Int) < (Z : Int) := by omega
        go_wp2
        go_ret
        exact ⟨_, rfl, HR.out, HS1.out.below⟩
end Go.Proofs
