/- What feas tells of stops that are no customers, of customers that come twice or not at all, and of the fleet. Conditions: an instance that may be relied on; a million stops, and routes, at most. -/
import Derived.Test.YthgagmndefaniaaG26
import Derived.Test.YthgagmndefaniaaG22
import Derived.Test.YthgagmndefaniaaG19
import Derived.Lib.AppendZeros
namespace Go.Proofs
open Go.RowKit Go.Shelf Go.Canon Go.Feas Go.Plans
attribute [local go_sem] Oper.semAt_some
attribute [local go_sem ↓] Go.wp_at_zero Go.wp_at_succ
/-- An instance and a plan in their boxes, and a row of wrongs of a call's own. -/
structure CpS (w : World) (x : Ins) (vn vm vp : Value) (o : Value) (l : List Wr) (W : World) : Prop where
  box : InsBox W w.heap.size x vn vm 25
  pbox : BoxAt W (w.heap.size + 1) vp
  below : Below w.heap.size w W
  row : W.ownsRow (w.heap.size + 2) 59 3 o l.length (l.flatMap wrC)
theorem CpS.next {w W W' : World} {x : Ins} {vn vm vp o : Value} {l : List Wr} (h : CpS w x vn vm vp o l W) (hb : Below W.heap.size W W') : CpS w x vn vm vp o l W' :=
  ⟨h.box.next hb, h.pbox.next hb, h.below.trans (hb.mono h.below.size), fowns_next h.row hb⟩
theorem CpS.drew {w W : World} {x : Ins} {vn vm vp o : Value} {l : List Wr} (h : CpS w x vn vm vp o l W) : CpS w x vn vm vp o l W.drew := ⟨h.box, h.pbox, h.below.drew, h.row⟩
theorem CpS.alloc {w W : World} {x : Ins} {vn vm vp o : Value} {l : List Wr} (h : CpS w x vn vm vp o l W) (ob : Obj) : CpS w x vn vm vp o l (W.alloc ob) := h.next (fbelow_box W ob)
theorem CpS.grow {w W W' : World} {x : Ins} {vn vm vp o o' : Value} {l l' : List Wr} (h : CpS w x vn vm vp o l W) (hg : W.grownBy W' o.ownBlock) (hr : W'.ownsRow (w.heap.size + 2) 59 3 o' l'.length (l'.flatMap wrC)) : CpS w x vn vm vp o' l' W' := by
  refine ⟨h.box.grown (by omega) h.row hg, ⟨?_, Nat.lt_of_lt_of_le h.pbox.2 hg.size⟩, fgrown_below h.below h.below.size (by omega) h.row hg, hr⟩
  exact (World.cell?_of_block (a := ⟨w.heap.size + 1, 0, none⟩) (hg.block (w.heap.size + 1) h.pbox.2 (fun e => by have := (h.row.lt (w.heap.size + 1) e.symm).1; omega))).trans h.pbox.1
theorem CpS.slice {w W : World} {x : Ins} {vn vm vp o : Value} {l : List Wr} (h : CpS w x vn vm vp o l W) : ∃ a c, o = .slice a l.length c := owns_dat h.row
theorem cpS_S {w W : World} {x : Ins} {vn vm vp o : Value} {l : List Wr} (h : CpS w x vn vm vp o l W) : W.cell? ⟨w.heap.size, 0, none⟩ = some (.string x.name) ∧ W.cell? ⟨w.heap.size, 1, none⟩ = some (.int .i64 x.kind) ∧ W.cell? ⟨w.heap.size, 2, none⟩ = some (.int .i64 x.metric) ∧ W.cell? ⟨w.heap.size, 3, none⟩ = some (.int .i64 x.scale) ∧ W.cell? ⟨w.heap.size, 4, none⟩ = some (.int .i64 x.cap) ∧ W.cell? ⟨w.heap.size, 5, none⟩ = some (.int .i64 x.fleet) ∧ W.cell? ⟨w.heap.size, 6, none⟩ = some vn ∧ W.cell? ⟨w.heap.size, 7, none⟩ = some vm ∧ W.cell? ⟨w.heap.size + 1, 0, none⟩ = some vp ∧ CpS w x vn vm vp o l W := by
  obtain ⟨c0, c1, c2, c3, c4, c5, c6, c7⟩ := h.box.cells
  exact ⟨c0, c1, c2, c3, c4, c5, c6, c7, h.pbox.1, h⟩
theorem cpS_start (w : World) (x : Ins) (vn vm vp : Value) : CpS w x vn vm vp (.slice none 0 0) [] ((w.alloc (.cells #[.string x.name, .int .i64 x.kind, .int .i64 x.metric, .int .i64 x.scale, .int .i64 x.cap, .int .i64 x.fleet, vn, vm] 25)).alloc (.cells #[vp] 28)) := by
  have e1 : (w.alloc (.cells #[.string x.name, .int .i64 x.kind, .int .i64 x.metric, .int .i64 x.scale, .int .i64 x.cap, .int .i64 x.fleet, vn, vm] 25)).heap.size = w.heap.size + 1 := by simp
  refine ⟨(InsBox.new w x vn vm 25).alloc _, ?_, (fbelow_box w _).alloc (by simp) _, owns_nil _ _ _ _⟩
  have h := BoxAt.new (w.alloc (.cells #[.string x.name, .int .i64 x.kind, .int .i64 x.metric, .int .i64 x.scale, .int .i64 x.cap, .int .i64 x.fleet, vn, vm] 25)) vp 28
  rw [e1] at h
  exact h
set_option maxRecDepth 100000 in
set_option maxHeartbeats 2000000 in
theorem Try.unknown_calls (x : Ins) (vn vm v : Value) (rr : Rts) (w : World) (hx : HasIns w vn vm x) (hg : Fine x) (hl : rr.length ≤ 1000000) (hm : many rr ≤ 1000000) (hv : HasRts w v rr) :
    Calls Try.prog 29 #[insV x vn vm, planV v] w fun e w' => ∃ v', e = .returned v' ∧ HasWrs w' v' (unks x 0 rr) ∧ Below w.heap.size w w' := by
  obtain ⟨i0, hio, hz0, hz1, hz2⟩ := info_parts Try.info59
  have HI := Lib.hid hio
  have HX := Lib.hid hx
  have hls : ∀ l ∈ rr, l.length ≤ 1000000 := fun l h => by
    obtain ⟨k, hk⟩ := List.mem_iff_getElem?.1 h
    have h1 := many_take hk
    have h2 := many_take_le rr (k + 1)
    omega
  have HFI := Lib.hid fun W h => Try.first_calls x vn vm W h
  have hun := unks_len x rr 0
  obtain ⟨b, off, cn, rfl, _, _, hNo⟩ := hx.all hg.lo
  obtain ⟨am, cm, rfl, _⟩ := hx.matrix.dat
  have HV := Lib.hid hv
  obtain ⟨ap, cp, rfl⟩ := hv.len
  obtain ⟨N, hn⟩ : ∃ n, rr.length = n := ⟨_, rfl⟩
  rw [hn] at hl HV
  have HN := Lib.hid hn
  have HBD : Hid (∀ s : Int, badB x s = (decide (s < (least x : Int)) || decide ((x.nodes.length : Int) ≤ s))) := fun s => rfl
  have hle : least x ≤ 1 := by unfold least; split <;> omega
  obtain ⟨L, hL⟩ : ∃ L, x.nodes.length = L := ⟨_, rfl⟩
  rw [hL] at HX HFI HBD ⊢
  rw [hn]
  have HLS := Lib.hid hls
  unfold planV
  unfold insV at HFI ⊢
  clear hx hv hn hL hg hio hNo hls
  generalize x.matrix.length = M0 at *
  generalize least x = lo at *
  have HS0 := Lib.hid (cpS_start w x (.slice (some ⟨b, off, none⟩) L cn) (.slice am M0 cm) (.slice ap N cp))
  go_enter Try.func29, Try.ntmps29
  obtain ⟨c0, c1, c2, c3, c4, c5, c6, c7, hp0, -⟩ := cpS_S HS0.out
  go_wp2_with (fail)
  clear c0 c1 c2 c3 c4 c5 c6 c7 hp0
  go_loopw [5, 13] (fun o i wr => ∃ a : Nat, a ≤ N ∧ i = .int .i64 (a : Int) ∧ CpS w x (.slice (some ⟨b, off, none⟩) L cn) (.slice am M0 cm) (.slice ap N cp) o (unks x 0 (rr.take a)) wr) (fun _ i _ => N - (intOf i).toNat)
  case atStart => exact ⟨0, Nat.zero_le _, rfl, HS0.out⟩
  case round =>
    obtain ⟨a, ha, rfl, hS⟩ := hrel
    have HS := Lib.hid hS
    clear hS HS0
    by_cases hlt : a < N
    · obtain ⟨l, hp⟩ : ∃ l, rr[a]? = some l := ⟨_, List.getElem?_eq_getElem (by have := HN.out; omega)⟩
      have hai : (a : Int) < (N : Int) := by omega
      have HUT := Lib.hid (unks_take (x := x) hp)
      have hul := unks_len x (rr.take a) 0
      have hml := many_take_le rr a
      have hll := HLS.out l (List.mem_of_getElem? hp)
      have hmt := many_take hp
      have hmle := many_take_le rr (a + 1)
      obtain ⟨b4, off4, cap4, u4, e4, _, hbw4, hc4, hu4⟩ := HV.out.get hp (Nat.le_refl _) (Below.refl _ w)
      clear hp
      rw [HN.out] at e4
      injection e4 with h1 h2 h3
      subst h1
      subst h3
      clear h2
      have hc4' := (HS.out.below.cell (p := ⟨b4, off4 + a, none⟩) hbw4).trans hc4
      have HU := Lib.hid hu4
      obtain ⟨a5, c5', rfl⟩ := hu4.len
      obtain ⟨M, hM⟩ : ∃ M, l.length = M := ⟨_, rfl⟩
      rw [hM] at hll hmt HU
      rw [hM] at hc4'
      have HM := Lib.hid hM
      clear hM hu4 hc4
      go_wp2_with (fail)
      clear hc4' hbw4
      go_loopw [5, 20] (fun o kk w2 => ∃ q : Nat, q ≤ M ∧ kk = .int .i64 (q : Int) ∧ CpS w x (.slice (some ⟨b, off, none⟩) L cn) (.slice am M0 cm) (.slice (some ⟨b4, off4, none⟩) N cp) o (unks x 0 (rr.take a) ++ unkR x a (l.take q)) w2) (fun _ kk _ => M - (intOf kk).toNat)
      case atStart => exact ⟨0, Nat.zero_le _, rfl, by show CpS _ _ _ _ _ _ (unks x 0 (rr.take a) ++ []) _; rw [List.append_nil]; exact HS.out⟩
      case round =>
        obtain ⟨q, hq, rfl, hS2⟩ := hrel
        have HS2 := Lib.hid hS2
        obtain ⟨c0, c1, c2, c3, c4, c5, c6, c7, hp0, -⟩ := cpS_S hS2
        clear hS2
        have hunk := unkR_len x a (l.take q)
        rw [List.length_take] at hunk
        by_cases hlt2 : q < M
        · obtain ⟨s, hs⟩ : ∃ s, l[q]? = some s := ⟨_, List.getElem?_eq_getElem (by have := HM.out; omega)⟩
          have hqi : (q : Int) < (M : Int) := by omega
          obtain ⟨b7, off7, cap7, e7, _, _, hbw7, hc7⟩ := HU.out.atc hs
          rw [HM.out] at e7
          injection e7 with h1 h2 h3
          subst h1
          subst h3
          clear h2
          have hc7 := (HS2.out.below.cell (p := ⟨b7, off7 + q, none⟩) hbw7).trans hc7
          have HQ : Hid (unks x 0 (rr.take a) ++ unkR x a (l.take (q + 1)) = (unks x 0 (rr.take a) ++ unkR x a (l.take q)) ++ if badB x s = true then [((1, (a : Int), s) : Wr)] else []) := by
            unfold Hid; rw [ptake_snoc hs, unkR_snoc, List.append_assoc]
          have hlk : (unks x 0 (rr.take a) ++ unkR x a (l.take q)).length ≤ 1000000 := by rw [List.length_append]; omega
          clear hs hunk hul hml hmt hmle
          generalize unks x 0 (rr.take a) ++ unkR x a (l.take q) = lk at *
          by_cases hb1 : s < (lo : Int)
          · have hbb : badB x s = true := by rw [HBD.out, decide_eq_true hb1]; rfl
            have HQ2 : Hid (unks x 0 (rr.take a) ++ unkR x a (l.take (q + 1)) = lk ++ [((1, (a : Int), s) : Wr)]) := by unfold Hid; rw [HQ.out, hbb, if_pos rfl]
            clear HQ
            go_wp2_with (first | (go_at_call 49; (with_reducible refine (HFI.out _ (HX.out.next HS2.out.below)).mono ?_); rintro e w5 ⟨rfl, hbw5⟩; have HS5 := Lib.hid (HS2.out.next hbw5); have hsw5 : w.heap.size + 2 ≤ w5.heap.size := HS5.out.pbox.2; clear c0 c1 c2 c3 c4 c5 c6 c7 hp0; obtain ⟨c0, c1, c2, c3, c4, c5, c6, c7, hp0, -⟩ := cpS_S HS5.out; clear hbw5) | (at_builtin; refine wpList_append_own _ rfl _ _ 32 rfl (w.heap.size + 2) 59 i0 (.agg #[.int .i64 0, .int .i64 0, .int .i64 0]) 3 24 Try.underlying32 HI.out hz0 hz1 hz2 rfl (by decide) _ _ _ rfl (HS5.out.row.alloc _) ⟨w5.heap.size, 0, none⟩ 1 1 (wrC ((1, (a : Int), s) : Wr)) rfl rfl (cells_wr w5 _ _ _ 59) (by simp [Value.oneCell', wrC]) (by unfold maxLen; omega) (by omega) (by simp; omega) ?_; intro v' w6 hown' hgrow _; have HS6 : Hid (CpS w x (.slice (some ⟨b, off, none⟩) L cn) (.slice am M0 cm) (.slice (some ⟨b4, off4, none⟩) N cp) v' (lk ++ [((1, (a : Int), s) : Wr)]) w6) := ((HS5.out.alloc _).grow hgrow (by rw [List.length_append, flat_snoc]; exact hown')); clear hown' hgrow))
            go_roundw
            case rel => exact ⟨q + 1, by omega, by go_num, by rw [HQ2.out]; exact HS6.out⟩
            case measure => simp [intOf]; omega
          · by_cases hb2 : (L : Int) ≤ s
            · have hbb : badB x s = true := by rw [HBD.out, decide_eq_true hb2, Bool.or_true]
              have HQ2 : Hid (unks x 0 (rr.take a) ++ unkR x a (l.take (q + 1)) = lk ++ [((1, (a : Int), s) : Wr)]) := by unfold Hid; rw [HQ.out, hbb, if_pos rfl]
              clear HQ
              go_wp2_with (first | (go_at_call 49; (with_reducible refine (HFI.out _ (HX.out.next HS2.out.below)).mono ?_); rintro e w5 ⟨rfl, hbw5⟩; have HS5 := Lib.hid (HS2.out.next hbw5); have hsw5 : w.heap.size + 2 ≤ w5.heap.size := HS5.out.pbox.2; clear c0 c1 c2 c3 c4 c5 c6 c7 hp0; obtain ⟨c0, c1, c2, c3, c4, c5, c6, c7, hp0, -⟩ := cpS_S HS5.out; clear hbw5) | (at_builtin; refine wpList_append_own _ rfl _ _ 32 rfl (w.heap.size + 2) 59 i0 (.agg #[.int .i64 0, .int .i64 0, .int .i64 0]) 3 24 Try.underlying32 HI.out hz0 hz1 hz2 rfl (by decide) _ _ _ rfl (HS5.out.row.alloc _) ⟨w5.heap.size, 0, none⟩ 1 1 (wrC ((1, (a : Int), s) : Wr)) rfl rfl (cells_wr w5 _ _ _ 59) (by simp [Value.oneCell', wrC]) (by unfold maxLen; omega) (by omega) (by simp; omega) ?_; intro v' w6 hown' hgrow _; have HS6 : Hid (CpS w x (.slice (some ⟨b, off, none⟩) L cn) (.slice am M0 cm) (.slice (some ⟨b4, off4, none⟩) N cp) v' (lk ++ [((1, (a : Int), s) : Wr)]) w6) := ((HS5.out.alloc _).grow hgrow (by rw [List.length_append, flat_snoc]; exact hown')); clear hown' hgrow))
              go_roundw
              case rel => exact ⟨q + 1, by omega, by go_num, by rw [HQ2.out]; exact HS6.out⟩
              case measure => simp [intOf]; omega
            · have hbb : badB x s = false := by rw [HBD.out, decide_eq_false hb1, decide_eq_false hb2]; rfl
              have HQ2 : Hid (unks x 0 (rr.take a) ++ unkR x a (l.take (q + 1)) = lk) := by unfold Hid; rw [HQ.out, hbb, if_neg (by decide), List.append_nil]
              clear HQ
              go_wp2_with (go_at_call 49; (with_reducible refine (HFI.out _ (HX.out.next HS2.out.below)).mono ?_); rintro e w5 ⟨rfl, hbw5⟩; have HS5 := Lib.hid (HS2.out.next hbw5); have hsw5 : w.heap.size + 2 ≤ w5.heap.size := HS5.out.pbox.2; clear c0 c1 c2 c3 c4 c5 c6 c7 hp0; obtain ⟨c0, c1, c2, c3, c4, c5, c6, c7, hp0, -⟩ := cpS_S HS5.out; clear hbw5)
              go_roundw
              case rel => exact ⟨q + 1, by omega, by go_num, by rw [HQ2.out]; exact HS5.out⟩
              case measure => simp [intOf]; omega
        · obtain rfl : q = M := by omega
          have HQ2 : Hid (unks x 0 (rr.take (a + 1)) = unks x 0 (rr.take a) ++ unkR x a (l.take q)) := by unfold Hid; rw [HUT.out, show l.take q = l from List.take_of_length_le (by rw [HM.out]; exact Nat.le_refl _)]
          go_wp2
          go_roundw
          case rel => exact ⟨a + 1, by omega, by go_num, by rw [HQ2.out]; exact HS2.out⟩
          case measure => simp [intOf]; omega
    · obtain rfl : a = N := by omega
      have HF : Hid (HasWrs wr u5 (unks x 0 rr)) := by
        have h := wrs_of_owns HS.out.row
        rw [List.take_of_length_le (by rw [HN.out]; exact Nat.le_refl _)] at h
        exact h
      go_wp2
      go_ret
      exact ⟨_, rfl, HF.out, HS.out.below⟩
set_option maxRecDepth 100000 in
set_option maxHeartbeats 2000000 in
theorem Try.visits_told (x : Ins) (vn vm v : Value) (rr : Rts) (w : World) (hx : HasIns w vn vm x) (hg : Fine x) (hm : many rr ≤ 1000000) (hv : HasRts w v rr) :
    Calls Try.prog 31 #[insV x vn vm, planV v] w fun e w' => ∃ v', e = .returned v' ∧ HasWrs w' v' (cnts (least x) rr x.nodes.length) ∧ Below w.heap.size w w' := by
  obtain ⟨i0, hio, hz0, hz1, hz2⟩ := info_parts Try.info59
  have HI := Lib.hid hio
  have HX := Lib.hid hx
  have HFI := Lib.hid fun W h => Try.first_calls x vn vm W h
  have HCT := Lib.hid fun W h => Try.PlanCount_in v rr x.nodes.length W hg.lo hg.hi (by omega) h
  have hhi := hg.hi
  obtain ⟨b, off, cn, rfl, _, _, hNo⟩ := hx.all hg.lo
  obtain ⟨am, cm, rfl, _⟩ := hx.matrix.dat
  have HV := Lib.hid hv
  obtain ⟨ap, cp, rfl⟩ := hv.len
  obtain ⟨N, hn⟩ : ∃ n, rr.length = n := ⟨_, rfl⟩
  rw [hn] at HV HCT
  have HN := Lib.hid hn
  have hle : least x ≤ 1 := by unfold least; split <;> omega
  obtain ⟨L, hL⟩ : ∃ L, x.nodes.length = L := ⟨_, rfl⟩
  rw [hL] at HX HFI HCT hhi ⊢
  rw [hn]
  unfold planV at HCT ⊢
  unfold insV at HFI ⊢
  clear hx hv hn hL hg hio hNo
  generalize x.matrix.length = M0 at *
  generalize least x = lo at *
  have HS0 := Lib.hid (cpS_start w x (.slice (some ⟨b, off, none⟩) L cn) (.slice am M0 cm) (.slice ap N cp))
  go_enter Try.func31, Try.ntmps31
  obtain ⟨c0, c1, c2, c3, c4, c5, c6, c7, hp0, -⟩ := cpS_S HS0.out
  go_wp2_with (go_at_call 51; (with_reducible refine (HCT.out _ (HV.out.next HS0.out.below)).mono ?_); rintro e w1 ⟨g, rfl, hu1, hb1⟩; have HS1 := Lib.hid (HS0.out.next hb1); have HU1 := Lib.hid hu1; clear hu1 hb1 c0 c1 c2 c3 c4 c5 c6 c7 hp0)
  have HUB : Hid (w1.ownsRow 0 3 1 (.slice (some ⟨g, 0, none⟩) L L) L ((countL rr L).map intV)) := owns_baseLe HU1.out (Nat.zero_le _)
  clear HU1 HS0
  have HCL := Lib.hid (countL_len rr L)
  have HUI : Hid (∀ (W : World) (B : Nat) (u : Value), W.ownsRow B 3 1 u L ((countL rr L).map intV) → HasInts W u (countL rr L)) := fun W B u h => by
    have e := HCL.out
    rw [← e] at h
    exact hasInts_of_owns (by rw [e] at h ⊢; exact h)
  go_loopw [5, 14] (fun o cc wr => ∃ c : Nat, c ≤ L ∧ cc = .int .i64 (c : Int) ∧ CpS w x (.slice (some ⟨b, off, none⟩) L cn) (.slice am M0 cm) (.slice ap N cp) o (cnts lo rr c) wr ∧ wr.ownsRow 0 3 1 (.slice (some ⟨g, 0, none⟩) L L) L ((countL rr L).map intV)) (fun _ cc _ => L - (intOf cc).toNat)
  case atStart => exact ⟨0, Nat.zero_le _, rfl, HS1.out, HUB.out⟩
  case round =>
    obtain ⟨c, hc, rfl, hS, hC⟩ := hrel
    have HS4 := Lib.hid hS
    have HC4 := Lib.hid hC
    obtain ⟨c0, c1, c2, c3, c4, c5, c6, c7, hp0, -⟩ := cpS_S hS
    clear hS HS1 HUB
    have hcl := cnts_len lo rr c
    by_cases hlt : c < L
    · have hci : (c : Int) < (L : Int) := by omega
      have hcc : (countL rr L)[c]? = some (countR rr (c : Int) : Int) := by rw [← cntL_flat, cntL_get _ hlt, countR_flat]
      have HCC := Lib.hid hcc
      obtain ⟨b8, off8, cap8, e8, _, _, hbw8, hc8⟩ := (HUI.out _ _ _ hC).atc hcc
      injection e8 with e1 e2 e3
      injection e1 with e1
      injection e1 with e4 e5
      subst e4; subst e5; subst e3
      rw [Nat.zero_add] at hc8
      clear e2 hC hcc
      have HQ : Hid (cnts lo rr (c + 1) = cnts lo rr c ++ if lo ≤ c then cntW c (countR rr (c : Int)) else []) := rfl
      have HKC : Hid (∀ (W : World) (o : Obj) (w6 : World), CpS w x (.slice (some ⟨b, off, none⟩) L cn) (.slice am M0 cm) (.slice ap N cp) u5 (cnts lo rr c) W → W.ownsRow 0 3 1 (.slice (some ⟨g, 0, none⟩) L L) L ((countL rr L).map intV) → (W.alloc o).grownBy w6 u5.ownBlock → w6.ownsRow 0 3 1 (.slice (some ⟨g, 0, none⟩) L L) L ((countL rr L).map intV)) := fun W o w6 hW hC hg =>
        (hC.alloc o).kept hg (two_rows (hC.alloc o) (hW.row.alloc o) (by decide))
      generalize cnts lo rr c = lk at *
      generalize countR rr (c : Int) = q at *
      by_cases hlo : lo ≤ c
      · rw [if_pos hlo] at HQ
        have hn1 : ¬ (c : Int) < (lo : Int) := by omega
        by_cases h1 : 1 < q
        · have hcw : cntW c q = [((2, 0, (c : Int)) : Wr)] := by unfold cntW; rw [if_pos h1]
          have k1 : (1 : Int) < (q : Int) := by omega
          have k2 : ((q : Int) == 0) = false := beq_eq_false_iff_ne.2 (by omega)
          have HQ2 : Hid (cnts lo rr (c + 1) = lk ++ [((2, 0, (c : Int)) : Wr)]) := by unfold Hid; rw [HQ.out, hcw]
          clear HQ hcw
          go_wp2_with (first | (go_at_call 49; (with_reducible refine (HFI.out _ (HX.out.next HS4.out.below)).mono ?_); rintro e w5 ⟨rfl, hbw5⟩; have HS5 := Lib.hid (HS4.out.next hbw5); have hsw5 : w.heap.size + 2 ≤ w5.heap.size := HS5.out.pbox.2; clear c0 c1 c2 c3 c4 c5 c6 c7 hp0; obtain ⟨c0, c1, c2, c3, c4, c5, c6, c7, hp0, -⟩ := cpS_S HS5.out; have HC5 := Lib.hid (fowns_next HC4.out hbw5); clear hbw5) | (at_builtin; refine wpList_append_own _ rfl _ _ 32 rfl (w.heap.size + 2) 59 i0 (.agg #[.int .i64 0, .int .i64 0, .int .i64 0]) 3 24 Try.underlying32 HI.out hz0 hz1 hz2 rfl (by decide) _ _ _ rfl (HS5.out.row.alloc _) ⟨w5.heap.size, 0, none⟩ 1 1 (wrC ((2, 0, (c : Int)) : Wr)) rfl rfl (cells_wr w5 _ _ _ 59) (by simp [Value.oneCell', wrC]) (by unfold maxLen; omega) (by omega) (by simp; omega) ?_; intro v' w6 hown' hgrow _; have HS6 : Hid (CpS w x (.slice (some ⟨b, off, none⟩) L cn) (.slice am M0 cm) (.slice ap N cp) v' (lk ++ [((2, 0, (c : Int)) : Wr)]) w6) := ((HS5.out.alloc _).grow hgrow (by rw [List.length_append, flat_snoc]; exact hown')); have HC6 := Lib.hid (HKC.out _ _ _ HS5.out HC5.out hgrow); clear hown' hgrow))
          go_roundw
          case rel => exact ⟨c + 1, by omega, by go_num, by rw [HQ2.out]; exact HS6.out, HC6.out⟩
          case measure => simp [intOf]; omega
        · by_cases h2 : q = 0
          · subst h2
            clear h1
            have hcw : cntW c 0 = [((3, 0, (c : Int)) : Wr)] := rfl
            have HQ2 : Hid (cnts lo rr (c + 1) = lk ++ [((3, 0, (c : Int)) : Wr)]) := by unfold Hid; rw [HQ.out, hcw]
            clear HQ hcw
            go_wp2_with (first | (go_at_call 49; (with_reducible refine (HFI.out _ (HX.out.next HS4.out.below)).mono ?_); rintro e w5 ⟨rfl, hbw5⟩; have HS5 := Lib.hid (HS4.out.next hbw5); have hsw5 : w.heap.size + 2 ≤ w5.heap.size := HS5.out.pbox.2; clear c0 c1 c2 c3 c4 c5 c6 c7 hp0; obtain ⟨c0, c1, c2, c3, c4, c5, c6, c7, hp0, -⟩ := cpS_S HS5.out; have HC5 := Lib.hid (fowns_next HC4.out hbw5); clear hbw5) | (at_builtin; refine wpList_append_own _ rfl _ _ 32 rfl (w.heap.size + 2) 59 i0 (.agg #[.int .i64 0, .int .i64 0, .int .i64 0]) 3 24 Try.underlying32 HI.out hz0 hz1 hz2 rfl (by decide) _ _ _ rfl (HS5.out.row.alloc _) ⟨w5.heap.size, 0, none⟩ 1 1 (wrC ((3, 0, (c : Int)) : Wr)) rfl rfl (cells_wr w5 _ _ _ 59) (by simp [Value.oneCell', wrC]) (by unfold maxLen; omega) (by omega) (by simp; omega) ?_; intro v' w6 hown' hgrow _; have HS6 : Hid (CpS w x (.slice (some ⟨b, off, none⟩) L cn) (.slice am M0 cm) (.slice ap N cp) v' (lk ++ [((3, 0, (c : Int)) : Wr)]) w6) := ((HS5.out.alloc _).grow hgrow (by rw [List.length_append, flat_snoc]; exact hown')); have HC6 := Lib.hid (HKC.out _ _ _ HS5.out HC5.out hgrow); clear hown' hgrow))
            go_roundw
            case rel => exact ⟨c + 1, by omega, by go_num, by rw [HQ2.out]; exact HS6.out, HC6.out⟩
            case measure => simp [intOf]; omega
          · have hcw : cntW c q = [] := by unfold cntW; rw [if_neg h1, if_neg h2]
            have k1 : ¬ (1 : Int) < (q : Int) := by omega
            have k2 : ((q : Int) == 0) = false := beq_eq_false_iff_ne.2 (by omega)
            have HQ2 : Hid (cnts lo rr (c + 1) = lk) := by unfold Hid; rw [HQ.out, hcw, List.append_nil]
            clear HQ hcw
            go_wp2_with (go_at_call 49; (with_reducible refine (HFI.out _ (HX.out.next HS4.out.below)).mono ?_); rintro e w5 ⟨rfl, hbw5⟩; have HS5 := Lib.hid (HS4.out.next hbw5); have hsw5 : w.heap.size + 2 ≤ w5.heap.size := HS5.out.pbox.2; clear c0 c1 c2 c3 c4 c5 c6 c7 hp0; obtain ⟨c0, c1, c2, c3, c4, c5, c6, c7, hp0, -⟩ := cpS_S HS5.out; have HC5 := Lib.hid (fowns_next HC4.out hbw5); clear hbw5)
            go_roundw
            case rel => exact ⟨c + 1, by omega, by go_num, by rw [HQ2.out]; exact HS5.out, HC5.out⟩
            case measure => simp [intOf]; omega
      · rw [if_neg hlo, List.append_nil] at HQ
        have hn1 : (c : Int) < (lo : Int) := by omega
        go_wp2_with (go_at_call 49; (with_reducible refine (HFI.out _ (HX.out.next HS4.out.below)).mono ?_); rintro e w5 ⟨rfl, hbw5⟩; have HS5 := Lib.hid (HS4.out.next hbw5); have hsw5 : w.heap.size + 2 ≤ w5.heap.size := HS5.out.pbox.2; clear c0 c1 c2 c3 c4 c5 c6 c7 hp0; obtain ⟨c0, c1, c2, c3, c4, c5, c6, c7, hp0, -⟩ := cpS_S HS5.out; have HC5 := Lib.hid (fowns_next HC4.out hbw5); clear hbw5)
        go_roundw
        case rel => exact ⟨c + 1, by omega, by go_num, by rw [HQ.out]; exact HS5.out, HC5.out⟩
        case measure => simp [intOf]; omega
    · obtain rfl : c = L := by omega
      have HF : Hid (HasWrs wr u5 (cnts lo rr c)) := wrs_of_owns HS4.out.row
      go_wp2
      go_ret
      exact ⟨_, rfl, HF.out, HS4.out.below⟩
end Go.Proofs
/- The fleet; slices.Grow and slices.Concat at what is wrong. Conditions: an instance that may be relied on; a million of all at most. -/
namespace Go.Proofs
open Go.RowKit Go.Shelf Go.Canon Go.Feas Go.Plans
attribute [local go_sem] Oper.semAt_some
attribute [local go_sem ↓] Go.wp_at_zero Go.wp_at_succ
/-- All that a slice of wrongs holds, put behind an own row. -/
theorem wpList_append_wrs {P : Program} {w : World} {ops : Array Oper} {rest : List Oper} {o : Oper} {a : Act} {Q : Exit → Act → World → Prop} (hgd : o.guard = none) (s x : Operand) (t : TypeId)
    (ho : o.op = .call { callee := .builtin .append, args := #[s, x], argTypes := #[t, t] })
    (base : Nat) (e : TypeId) (i : TypeInfo) (z : Value) (bytes : Nat) (ht : P.underlying t = some (.slice e)) (hi : P.info? e = some i) (hz : i.zero = some z)
    (hsize : i.size = 3) (hby : i.bytes = bytes) (hzs : z.cells.size = 3)
    (v : Value) (l : List Wr) (hs : a.eval s = v) (hown : w.ownsRow base e 3 v l.length (l.flatMap wrC))
    (u : Value) (l2 : List Wr) (hx : a.eval x = u) (hu : HasWrs w u l2)
    (h63 : l.length + l2.length ≤ maxLen) (hbytes : (l.length + l2.length) * bytes ≤ 140737488355328) (hbase : base ≤ w.heap.size)
    (h : ∀ v' w', w'.ownsRow base e 3 v' (l ++ l2).length ((l ++ l2).flatMap wrC) → w.grownBy w' v.ownBlock → wpList P ops Q rest (a.put o.dst v') w') : wpList P ops Q (o :: rest) a w := by
  refine wpList_plain hgd fun K hK => ?_
  rcases hu with ⟨rfl, ao, cap, rfl⟩ | ⟨b, off, cap, rfl, h2, h3, h4⟩
  · have hrun := frun_append_nothing (P := P) (w := w) base t o.type e i 3 ht hi v l.length (l.flatMap wrC) hown ao cap
    unfold Oper.wp execOp
    simp only [ho, resolve, invoke, builtin, Sem.run_bind, Sem.run_pure, Result.andThen_ok, List.map_toArray, List.map_cons, List.map_nil, hs, hx, hrun]
    exact hK _ _ (h v w (by rw [List.append_nil]; exact hown) ⟨rfl, rfl, rfl, Nat.le_refl _, fun _ _ _ => rfl⟩)
  · refine wp_append_own w s x t ho base e i z 3 bytes ht hi hz hsize hby hzs (by decide) v l.length (l.flatMap wrC) hs hown ⟨b, off, none⟩ l2.length cap (l2.flatMap wrC) hx (flat_len (f := wrC) (s := 3) (fun _ => rfl) l2) (fun j y hj => ?_) (wrC_one l2) h63 hbytes hbase fun v' w' h5 h6 _ => hK _ _ (h v' w' (by rw [List.length_append, List.flatMap_append]; exact h5) h6)
    have hjl : j < l2.length * 3 := by
      have := (List.getElem?_eq_some_iff.1 hj).1
      rw [flat_len (f := wrC) (s := 3) (fun _ => rfl) l2] at this
      exact this
    have hq : j / 3 < l2.length := by omega
    have e1 : j = j / 3 * 3 + j % 3 := by omega
    have hm : j % 3 < 3 := Nat.mod_lt _ (by decide)
    obtain ⟨p, hp⟩ : ∃ p, l2[j / 3]? = some p := ⟨_, List.getElem?_eq_getElem hq⟩
    have h7 := h4.2 _ p hp
    rw [e1, flat_get (f := wrC) (s := 3) (fun _ => rfl) hp hm] at hj
    rw [Addr.add_lit]
    generalize j / 3 = q at *
    generalize j % 3 = r at *
    subst e1
    have hr : r = 0 ∨ r = 1 ∨ r = 2 := by omega
    rcases hr with rfl | rfl | rfl
    · have e2 : (Value.int .i64 p.1) = y := by simpa [wrC] using hj
      rw [← e2, Nat.add_zero]; exact h7.1
    · have e2 : (Value.int .i64 p.2.1) = y := by simpa [wrC] using hj
      rw [← e2, ← Nat.add_assoc]; exact h7.2.1
    · have e2 : (Value.int .i64 p.2.2) = y := by simpa [wrC] using hj
      rw [← e2, ← Nat.add_assoc]; exact h7.2.2
set_option maxRecDepth 100000 in
theorem Try.fleet_calls (x : Ins) (vn vm v : Value) (rr : Rts) (w : World) (hx : HasIns w vn vm x) (hl : rr.length ≤ 1000000) (hm : many rr ≤ 1000000) (hv : HasRts w v rr) :
    Calls Try.prog 32 #[insV x vn vm, planV v] w fun e w' => ∃ v', e = .returned v' ∧ HasWrs w' v' (fleetW x rr) ∧ Below w.heap.size w w' := by
  have hls : ∀ l ∈ rr, l.length ≤ 1000000 := fun l h => by
    obtain ⟨k, hk⟩ := List.mem_iff_getElem?.1 h
    have h1 := many_take hk
    have h2 := many_take_le rr (k + 1)
    omega
  have HX := Lib.hid hx
  have HNM : Hid (∀ W, HasRts W v rr → Calls Try.prog 26 #[planV v] W fun e w' => ∃ u, e = .returned (planV u) ∧ HasRts w' u (normR rr) ∧ Below W.heap.size W w') := fun W h => Try.PlanNorm_calls v rr W (by omega) (fun l h => by have := hls l h; omega) h
  obtain ⟨an, cn, rfl, _⟩ := hx.nodes.dat
  obtain ⟨am, cm, rfl, _⟩ := hx.matrix.dat
  have HV := Lib.hid hv
  obtain ⟨ap, cp, rfl⟩ := hv.len
  have hFF := normR_len rr
  generalize rr.length = N at *
  generalize x.nodes.length = L at *
  generalize x.matrix.length = M at *
  unfold planV at HNM ⊢
  unfold insV
  clear hx hv hls
  have HS0 := Lib.hid (cpS_start w x (.slice an L cn) (.slice am M cm) (.slice ap N cp))
  have hfld : ∀ (v : Value) (W : World), (Instr.field 28 (.agg #[v]) 0).run Try.prog W = .ok v W := fun _ _ => by kernel_rfl
  obtain ⟨F, hF⟩ : ∃ F, (normR rr).length = F := ⟨_, rfl⟩
  rw [hF] at hFF
  have HFF : Hid (full rr = F) := hF
  have HFL : Hid ((normR rr).length = F) := hF
  clear hF
  obtain ⟨c0, c1, c2, c3, c4, c5, c6, c7, hp0, -⟩ := cpS_S HS0.out
  go_enter Try.func32, Try.ntmps32
  go_upto_region 2 with (go_at_call 26; (with_reducible refine (HNM.out _ (HV.out.next HS0.out.below)).mono ?_); rintro e w3 ⟨u3, rfl, hu3, hb3⟩; have HS7 := Lib.hid (HS0.out.next hb3); obtain ⟨a3, n3, rfl⟩ := hu3.len; clear hu3 hb3 c0 c1 c2 c3 c4 c5 c6 c7 hp0; obtain ⟨c0, c1, c2, c3, c4, c5, c6, c7, hp0, -⟩ := cpS_S HS7.out)
  rw [HFL.out]
  by_cases k1 : x.kind = 1
  · have kb : (x.kind == 1) = true := beq_iff_eq.2 k1
    by_cases kf : F = 1
    · have HE : Hid (fleetW x rr = []) := by unfold Hid fleetW; rw [if_pos k1, HFF.out, if_neg (by omega)]
      subst kf
      clear k1
      by_cases g1 : x.fleet ≤ 0
      · go_wp2
        go_ret
        exact ⟨_, rfl, by rw [HE.out]; exact hasWrs_none _, HS7.out.below⟩
      · go_wp2
        go_ret
        exact ⟨_, rfl, by rw [HE.out]; exact hasWrs_none _, HS7.out.below⟩
    · have HE : Hid (fleetW x rr = [(4, 0, (F : Int))]) := by unfold Hid fleetW; rw [if_pos k1, HFF.out, if_pos kf]
      have kg : ((F : Int) == 1) = false := beq_eq_false_iff_ne.2 (by omega)
      clear k1 kf
      by_cases g1 : x.fleet ≤ 0
      · go_wp2
        go_ret
        exact ⟨_, rfl, by rw [HE.out]; exact hasWrs_one _ _ _ _, HS7.out.below.alloc HS7.out.below.size _⟩
      · go_wp2
        go_ret
        exact ⟨_, rfl, by rw [HE.out]; exact hasWrs_one _ _ _ _, HS7.out.below.alloc HS7.out.below.size _⟩
  · have kb : (x.kind == 1) = false := beq_eq_false_iff_ne.2 k1
    by_cases g1 : x.fleet ≤ 0
    · have HE : Hid (fleetW x rr = []) := by unfold Hid fleetW; rw [if_neg k1, if_neg (by omega)]
      clear k1
      go_wp2
      go_ret
      exact ⟨_, rfl, by rw [HE.out]; exact hasWrs_none _, HS7.out.below⟩
    · by_cases g2 : (F : Int) ≤ x.fleet
      · have HE : Hid (fleetW x rr = []) := by unfold Hid fleetW; rw [if_neg k1, HFF.out, if_neg (by omega)]
        clear k1
        go_wp2
        go_ret
        exact ⟨_, rfl, by rw [HE.out]; exact hasWrs_none _, HS7.out.below⟩
      · have HE : Hid (fleetW x rr = [(4, 0, (F : Int))]) := by unfold Hid fleetW; rw [if_neg k1, HFF.out, if_pos ⟨by omega, by omega⟩]
        clear k1
        go_wp2
        go_ret
        exact ⟨_, rfl, by rw [HE.out]; exact hasWrs_one _ _ _ _, HS7.out.below.alloc HS7.out.below.size _⟩
set_option maxRecDepth 100000 in
theorem Try.grow_calls (n : Nat) (w : World) (hn : n ≤ 10000000) :
    Calls Try.prog 50 #[.slice none 0 0, .int .i64 (n : Int)] w fun e w' => ∃ v, e = .returned v ∧ w'.ownsRow w.heap.size 59 3 v 0 [] ∧ Below w.heap.size w w' := by
  obtain ⟨i0, hio, hz0, hz1, hz2⟩ := info_parts Try.info59
  by_cases h0 : n = 0
  · subst h0
    clear hio hz0 hz1 hz2
    go_enter Try.func50, Try.ntmps50
    go_wp2
    go_ret
    exact ⟨_, rfl, owns_nil _ _ _ _, Below.refl _ _⟩
  · have hrz : ∀ ty, (Builtin.append_ #[32, 3] ty #[.slice none 0 0, .int .i64 (n : Int)]).run Try.prog w = _ := fun ty => Lib.run_append_nil_zeros w 32 3 ty 59 i0 (.agg #[.int .i64 0, .int .i64 0, .int .i64 0]) .i64 .i64 Try.underlying32 Try.underlying3 hio hz0 n (by omega) (by omega) (by omega) (by rw [hz2]; omega)
    have hG1 := grownCap_ge w n 0 59
    have hG2 := grownCap_le_maxLen w n 0 59 (by unfold maxLen; omega)
    have hni : (0 : Int) < (n : Int) := by omega
    generalize grownCap w n 0 59 = G at *
    have HO : Hid ((w.drew.alloc (.cells (Builtin.zeroCells (Value.agg #[.int .i64 0, .int .i64 0, .int .i64 0]).cells n ++ Builtin.zeroCells (Value.agg #[.int .i64 0, .int .i64 0, .int .i64 0]).cells (G - n)) 59)).ownsRow w.heap.size 59 3 (.slice (some ⟨w.heap.size, 0, none⟩) 0 G) 0 []) := by
      refine ⟨by simp, .inr ⟨w.heap.size, G, _, rfl, Nat.le_refl _, World.alloc_heap_new w.drew _, Nat.zero_le _, hG2, ?_, by simp⟩⟩
      rw [Array.size_append, size_zeroCells, size_zeroCells]
      show n * 3 + (G - n) * 3 = G * 3
      omega
    have HB : Hid (Below w.heap.size w (w.drew.alloc (.cells (Builtin.zeroCells (Value.agg #[.int .i64 0, .int .i64 0, .int .i64 0]).cells n ++ Builtin.zeroCells (Value.agg #[.int .i64 0, .int .i64 0, .int .i64 0]).cells (G - n)) 59))) := (Below.refl _ w).drew.alloc (Nat.le_refl _) _
    have hG3 : G ≤ 9223372036854775807 := by unfold maxLen at hG2; omega
    clear hG2
    go_enter Try.func50, Try.ntmps50
    go_wp2_with (at_builtin; refine Lib.wpList_append_run _ rfl _ _ _ _ rfl _ _ rfl rfl _ _ (hrz _) ?_)
    go_ret
    exact ⟨_, rfl, HO.out, HB.out⟩
set_option maxRecDepth 100000 in
theorem Try.concat_calls (v1 v2 : Value) (l1 l2 : List Wr) (g : Nat) (w : World) (h1 : w.cell? ⟨g, 0, none⟩ = some v1) (h2 : w.cell? ⟨g, 1, none⟩ = some v2) (hg : g < w.heap.size) (hw1 : HasWrs w v1 l1) (hw2 : HasWrs w v2 l2) (hl1 : l1.length ≤ 1000000) (hl2 : l2.length ≤ 1000000) :
    Calls Try.prog 30 #[.slice (some ⟨g, 0, none⟩) 2 2] w fun e w' => ∃ v, e = .returned v ∧ w'.ownsRow w.heap.size 59 3 v (l1 ++ l2).length ((l1 ++ l2).flatMap wrC) ∧ Below w.heap.size w w' := by
  obtain ⟨i0, hio, hz0, hz1, hz2⟩ := info_parts Try.info59
  have HI := Lib.hid hio
  have HG := Lib.hid fun n W h => Try.grow_calls n W h
  have HW1 := Lib.hid hw1
  have HW2 := Lib.hid hw2
  obtain ⟨a1, k1, rfl, _⟩ := hw1.dat
  obtain ⟨a2, k2, rfl, _⟩ := hw2.dat
  obtain ⟨n1, hn1⟩ : ∃ n, l1.length = n := ⟨_, rfl⟩
  obtain ⟨n2, hn2⟩ : ∃ n, l2.length = n := ⟨_, rfl⟩
  rw [hn1] at h1 HW1 hl1
  rw [hn2] at h2 HW2 hl2
  have HN1 := Lib.hid hn1
  have HN2 := Lib.hid hn2
  clear hw1 hw2 hio hn1 hn2
  obtain ⟨S, hS⟩ : ∃ S, n1 + n2 = S := ⟨_, rfl⟩
  have hSb : S ≤ 2000000 := by omega
  have HSS := Lib.hid hS
  clear hS
  go_enter Try.func30, Try.ntmps30
  go_wp2_with (fail)
  go_loopw [3, 11] (fun sz i wr => w = wr ∧ ∃ k : Nat, i = .int .i64 (k : Int) ∧ ((k = 0 ∧ sz = .int .i64 0) ∨ (k = 1 ∧ sz = .int .i64 (n1 : Int)) ∨ (k = 2 ∧ sz = .int .i64 (S : Int)))) (fun _ i _ => 2 - (intOf i).toNat)
  case atStart => exact ⟨rfl, 0, rfl, .inl ⟨rfl, rfl⟩⟩
  case round =>
    obtain ⟨rfl, k, rfl, hk⟩ := hrel
    rcases hk with ⟨rfl, rfl⟩ | ⟨rfl, rfl⟩ | ⟨rfl, rfl⟩
    · go_wp2
      go_roundw
      case rel => exact ⟨trivial, 1, rfl, .inr (.inl ⟨rfl, by go_num⟩)⟩
      case measure => simp [intOf]
    · go_wp2
      go_roundw
      case rel => exact ⟨trivial, 2, rfl, .inr (.inr ⟨rfl, by rw [← HSS.out]; go_num⟩)⟩
      case measure => simp [intOf]
    · go_wp2_with (go_at_call 50; (with_reducible refine (HG.out _ _ (by omega)).mono ?_); rintro e w3 ⟨v3, rfl, ho3, hb3⟩; have HO3 := Lib.hid ho3; have HB3 := Lib.hid hb3; clear ho3 hb3)
      have H1 := Lib.hid h1
      have H2 := Lib.hid h2
      clear h1 h2 HG
      go_wp2_with (fail)
      go_loopw [6, 27] (fun o i w2 => ∃ k : Nat, i = .int .i64 (k : Int) ∧ Below w.heap.size w w2 ∧ ((k = 0 ∧ w2.ownsRow w.heap.size 59 3 o 0 []) ∨ (k = 1 ∧ w2.ownsRow w.heap.size 59 3 o l1.length (l1.flatMap wrC)) ∨ (k = 2 ∧ w2.ownsRow w.heap.size 59 3 o (l1 ++ l2).length ((l1 ++ l2).flatMap wrC)))) (fun _ i _ => 2 - (intOf i).toNat)
      case atStart => exact ⟨0, rfl, HB3.out, .inl ⟨rfl, HO3.out⟩⟩
      case round =>
        obtain ⟨k, rfl, hB, hk⟩ := hrel
        have HB := Lib.hid hB
        have hs := hB.size
        rcases hk with ⟨rfl, ho⟩ | ⟨rfl, ho⟩ | ⟨rfl, ho⟩
        · have hc := (hB.cell (p := ⟨g, 0, none⟩) hg).trans H1.out
          have HW := Lib.hid (HW1.out.next hB)
          clear hB
          go_wp2_with (at_builtin; refine wpList_append_wrs rfl _ _ 32 rfl _ 59 i0 (.agg #[.int .i64 0, .int .i64 0, .int .i64 0]) 24 Try.underlying32 HI.out hz0 hz1 hz2 rfl _ [] rfl ho _ l1 rfl HW.out (by have := HN1.out; unfold maxLen; simp; omega) (by have := HN1.out; simp; omega) hs ?_; intro v' w6 hown' hgrow; have HO6 : Hid (w6.ownsRow w.heap.size 59 3 v' l1.length (l1.flatMap wrC)) := hown'; have HB6 : Hid (Below w.heap.size w w6) := fgrown_below HB.out hs (Nat.le_refl _) ho hgrow; clear hown' hgrow)
          go_roundw
          case rel => exact ⟨1, rfl, HB6.out, .inr (.inl ⟨rfl, HO6.out⟩)⟩
          case measure => simp [intOf]
        · have hc := (hB.cell (p := ⟨g, 1, none⟩) hg).trans H2.out
          have HW := Lib.hid (HW2.out.next hB)
          clear hB
          go_wp2_with (at_builtin; refine wpList_append_wrs rfl _ _ 32 rfl _ 59 i0 (.agg #[.int .i64 0, .int .i64 0, .int .i64 0]) 24 Try.underlying32 HI.out hz0 hz1 hz2 rfl _ l1 rfl ho _ l2 rfl HW.out (by have := HN1.out; have := HN2.out; unfold maxLen; omega) (by have := HN1.out; have := HN2.out; omega) hs ?_; intro v' w6 hown' hgrow; have HO6 : Hid (w6.ownsRow w.heap.size 59 3 v' (l1 ++ l2).length ((l1 ++ l2).flatMap wrC)) := hown'; have HB6 : Hid (Below w.heap.size w w6) := fgrown_below HB.out hs (Nat.le_refl _) ho hgrow; clear hown' hgrow)
          go_roundw
          case rel => exact ⟨2, rfl, HB6.out, .inr (.inr ⟨rfl, HO6.out⟩)⟩
          case measure => simp [intOf]
        · have HO := Lib.hid ho
          clear ho hB
          go_wp2
          go_ret
          exact ⟨_, rfl, HO.out, HB.out⟩
end Go.Proofs
