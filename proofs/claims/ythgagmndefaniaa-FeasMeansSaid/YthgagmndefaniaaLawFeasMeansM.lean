/- The law FeasMeans, as a contract. Conditions: what package feas answers. -/
import Derived.Test.YthgagmndefaniaaLawFeasChecksM
import Derived.Test.YthgagmndefaniaaFeasGoingM
namespace Go.Feas
open Go.Canon Go.Plans
/-- The stops so far are nodes from the least on, and all different. -/
def okB (lo n : Int) (l : List Int) : Bool := decide (∀ s ∈ l, lo ≤ s ∧ s < n) && decide (l.Pairwise (· ≠ ·))
theorem okB_iff {lo n : Int} {l : List Int} : okB lo n l = true ↔ (∀ s ∈ l, lo ≤ s ∧ s < n) ∧ l.Pairwise (· ≠ ·) := by
  unfold okB; rw [Bool.and_eq_true, decide_eq_true_iff, decide_eq_true_iff]
theorem okB_snoc (lo n : Int) (l : List Int) (s : Int) : okB lo n (l ++ [s]) = ((okB lo n l && decide (lo ≤ s) && decide (s < n)) && !decide (s ∈ l)) := by
  rw [Bool.eq_iff_iff, okB_iff, Bool.and_eq_true, Bool.and_eq_true, Bool.and_eq_true, okB_iff, decide_eq_true_iff, decide_eq_true_iff, Bool.not_eq_true', decide_eq_false_iff_not, List.pairwise_append]
  constructor
  · intro ⟨h1, h2, _, h4⟩
    exact ⟨⟨⟨⟨fun a ha => h1 a (List.mem_append_left _ ha), h2⟩, (h1 s (by simp)).1⟩, (h1 s (by simp)).2⟩, fun hs => h4 s hs s (by simp) rfl⟩
  · intro ⟨⟨⟨⟨h1, h2⟩, h3⟩, h4⟩, h5⟩
    refine ⟨fun a ha => ?_, h2, List.pairwise_singleton _ _, fun a ha b hb e => ?_⟩
    · rcases List.mem_append.1 ha with ha | ha
      · exact h1 a ha
      · obtain rfl : a = s := by simpa using ha
        exact ⟨h3, h4⟩
    · obtain rfl : b = s := by simpa using hb
      exact h5 (e ▸ ha)
theorem full_step {rr : Rts} {a : Nat} {l : List Int} (h : rr[a]? = some l) : full (rr.take (a + 1)) = full (rr.take a) + (if 0 < l.length then 1 else 0) := by
  rw [List.take_add_one, h, full_append]
  congr 1
  rcases l with _ | ⟨b, l⟩
  · rfl
  · rfl
theorem full_le (rr : Rts) : full rr ≤ rr.length := List.length_filter_le _ _
theorem flat_step {rr : Rts} {a : Nat} {l : List Int} (h : rr[a]? = some l) : (rr.take (a + 1)).flatten = (rr.take a).flatten ++ l := by
  rw [List.take_add_one, h, List.flatten_append]; simp
theorem cover_ok {x : Ins} {rr : Rts} : Cover x rr ↔ okB (least x : Int) x.nodes.length rr.flatten = true ∧ rr.flatten.length = x.nodes.length - least x := by
  rw [okB_iff]
  exact ⟨fun h => ⟨⟨h.range, h.once⟩, h.many⟩, fun h => ⟨h.1.1, h.1.2, h.2⟩⟩
end Go.Feas
namespace Go.Proofs
open Go.RowKit Go.Shelf Go.Canon Go.Feas Go.Plans
attribute [local go_sem] Oper.semAt_some
attribute [local go_sem ↓] Go.wp_at_zero Go.wp_at_succ
/-- An instance and a plan in their boxes, and the stops seen so far. -/
structure MnS (w : World) (x : Ins) (vn vm vp o : Value) (l : List Int) (W : World) : Prop where
  b : LwS w x vn vm vp W
  row : W.ownsRow (w.heap.size + 2) 3 1 o l.length (l.map intV)
theorem MnS.next {w W W' : World} {x : Ins} {vn vm vp o : Value} {l : List Int} (h : MnS w x vn vm vp o l W) (hb : Below W.heap.size W W') : MnS w x vn vm vp o l W' := ⟨h.b.next hb, fowns_next h.row hb⟩
theorem MnS.drewN {w W : World} {x : Ins} {vn vm vp o : Value} {l : List Int} (h : MnS w x vn vm vp o l W) (n : Nat) : MnS w x vn vm vp o l (W.drewN n) := h.next (cbelow_drewN (Below.refl _ _) n)
theorem MnS.grow {w W W' : World} {x : Ins} {vn vm vp o o' : Value} {l l' : List Int} (h : MnS w x vn vm vp o l W) (hg : W.grownBy W' o.ownBlock) (hr : W'.ownsRow (w.heap.size + 2) 3 1 o' l'.length (l'.map intV)) : MnS w x vn vm vp o' l' W' := by
  refine ⟨⟨h.b.box.grown (by omega) h.row hg, ⟨?_, Nat.lt_of_lt_of_le h.b.pbox.2 hg.size⟩, fgrown_below h.b.below h.b.below.size (by omega) h.row hg⟩, hr⟩
  exact (World.cell?_of_block (a := ⟨w.heap.size + 1, 0, none⟩) (hg.block (w.heap.size + 1) h.b.pbox.2 (fun e => by have := (h.row.lt (w.heap.size + 1) e.symm).1; omega))).trans h.b.pbox.1
theorem lw_S {w W : World} {x : Ins} {vn vm vp u : Value} {b o : Nat} (h : LwS w x vn vm vp W) (hb : b < w.heap.size) (hc : w.cell? ⟨b, o, none⟩ = some u) : W.cell? ⟨w.heap.size, 0, none⟩ = some (.string x.name) ∧ W.cell? ⟨w.heap.size, 1, none⟩ = some (.int .i64 x.kind) ∧ W.cell? ⟨w.heap.size, 2, none⟩ = some (.int .i64 x.metric) ∧ W.cell? ⟨w.heap.size, 3, none⟩ = some (.int .i64 x.scale) ∧ W.cell? ⟨w.heap.size, 4, none⟩ = some (.int .i64 x.cap) ∧ W.cell? ⟨w.heap.size, 5, none⟩ = some (.int .i64 x.fleet) ∧ W.cell? ⟨w.heap.size, 6, none⟩ = some vn ∧ W.cell? ⟨w.heap.size, 7, none⟩ = some vm ∧ W.cell? ⟨w.heap.size + 1, 0, none⟩ = some vp ∧ W.cell? ⟨b, o, none⟩ = some u ∧ LwS w x vn vm vp W := by
  obtain ⟨c0, c1, c2, c3, c4, c5, c6, c7, hp0, h⟩ := lwS_S h
  exact ⟨c0, c1, c2, c3, c4, c5, c6, c7, hp0, (h.below.cell (p := ⟨b, o, none⟩) hb).trans hc, h⟩
theorem mnS_start {w W : World} {x : Ins} {vn vm vp : Value} (h : LwS w x vn vm vp W) : MnS w x vn vm vp (.slice (some ⟨W.heap.size, 0, none⟩) 0 0) [] (W.alloc (.cells #[] 3)) := ⟨h.alloc _, owns_baseLe (cowns_empty W 3 1) h.pbox.2⟩
set_option maxRecDepth 100000 in
set_option maxHeartbeats 4000000 in
theorem Try.FeasMeans_calls (H : Try.FeasC) (x : Ins) (vn vm v : Value) (rr : Rts) (w : World) (hx : HasIns w vn vm x) (hv : HasRts w v rr) :
    Calls Try.prog 5 #[insV x vn vm, planV v] w fun e w' => e = .returned (.bool true) ∧ Below w.heap.size w w' := by
  have HX := Lib.hid hx
  have HV := Lib.hid hv
  have HSH := Lib.hid fun W => Try.fshown_calls H W
  cases hq : wellQ x with
  | false =>
    have HW : Hid (∀ W, HasIns W vn vm x → Calls Try.prog 11 #[insV x vn vm] W fun e w' => e = .returned (.bool false) ∧ Below W.heap.size W w') := fun W h => hq ▸ Try.lwell_calls x vn vm W h
    obtain ⟨an, cn, rfl, _⟩ := hx.nodes.dat
    obtain ⟨am, cm, rfl, _⟩ := hx.matrix.dat
    obtain ⟨ap, cp, rfl⟩ := hv.len
    unfold insV at HW ⊢
    unfold planV
    clear hx hv hq H
    generalize x.nodes.length = L at *
    generalize x.matrix.length = M at *
    generalize rr.length = N at *
    have HS0 := Lib.hid (lwS_start w x (.slice an L cn) (.slice am M cm) (.slice ap N cp))
    go_enter Try.func5, Try.ntmps5
    go_wp2_with (first | (go_at_call 11; (with_reducible refine (HW.out _ (HX.out.next HS0.out.below)).mono ?_); rintro e w1 ⟨rfl, hb1⟩; have HS1 := Lib.hid (HS0.out.next hb1)) | (go_at_call 13; (with_reducible refine (HSH.out _).mono ?_); rintro e w2 ⟨rfl, hb2⟩))
    go_ret
    exact ⟨rfl, HS1.out.below.trans (hb2.mono HS1.out.below.size)⟩
  | true =>
    have HW : Hid (∀ W, HasIns W vn vm x → Calls Try.prog 11 #[insV x vn vm] W fun e w' => e = .returned (.bool true) ∧ Below W.heap.size W w') := fun W h => hq ▸ Try.lwell_calls x vn vm W h
    have HQ := Lib.hid (wellQ_iff.1 hq)
    cases hlo : longQ rr with
    | true =>
      have HL : Hid (∀ W, HasRts W v rr → Calls Try.prog 12 #[planV v] W fun e w' => e = .returned (.bool true) ∧ Below W.heap.size W w') := fun W h => hlo ▸ Try.feasLong_calls v rr W h
      obtain ⟨an, cn, rfl, _⟩ := hx.nodes.dat
      obtain ⟨am, cm, rfl, _⟩ := hx.matrix.dat
      obtain ⟨ap, cp, rfl⟩ := hv.len
      unfold insV at HW ⊢
      unfold planV at HL ⊢
      clear hx hv hq hlo H HQ
      generalize x.nodes.length = L at *
      generalize x.matrix.length = M at *
      generalize rr.length = N at *
      have HS0 := Lib.hid (lwS_start w x (.slice an L cn) (.slice am M cm) (.slice ap N cp))
      go_enter Try.func5, Try.ntmps5
      go_wp2_with (first | (go_at_call 11; (with_reducible refine (HW.out _ (HX.out.next HS0.out.below)).mono ?_); rintro e w1 ⟨rfl, hb1⟩; have HS1 := Lib.hid (HS0.out.next hb1); obtain ⟨c0, c1, c2, c3, c4, c5, c6, c7, hp0, -⟩ := lwS_S HS1.out) | (go_at_call 12; (with_reducible refine (HL.out _ (HV.out.next HS1.out.below)).mono ?_); rintro e w3 ⟨rfl, hb3⟩; have HS3 := Lib.hid (HS1.out.next hb3)) | (go_at_call 13; (with_reducible refine (HSH.out _).mono ?_); rintro e w2 ⟨rfl, hb2⟩))
      go_ret
      exact ⟨rfl, HS3.out.below.trans (hb2.mono HS3.out.below.size)⟩
    | false =>
      have HL : Hid (∀ W, HasRts W v rr → Calls Try.prog 12 #[planV v] W fun e w' => e = .returned (.bool false) ∧ Below W.heap.size W w') := fun W h => hlo ▸ Try.feasLong_calls v rr W h
      have HFI := Lib.hid (fine_of HQ.out.well)
      have hN2 := (longQ_fits hlo).1
      have hmn := (longQ_fits hlo).2
      have HLN := Lib.hid (longQ_fits hlo)
      have HWL := Lib.hid HQ.out.well
      have hn4 := HQ.out.nodes
      have HC : Hid (∀ W, HasIns W vn vm x → HasRts W v rr → Calls Try.prog 19 #[insV x vn vm, planV v] W fun e w' => e = .returned (.bool (feasB x rr)) ∧ Below W.heap.size W w') := fun W h1 h2 => H.feasible x vn vm v rr W h1 HFI.out (by omega) (by omega) h2
      have HGO : Hid (∀ W u l, HasIns W vn vm x → HasInts W u l → l.length ≤ 1000000 → nodesB x l = true → Calls Try.prog 25 #[insV x vn vm, u] W fun e w' => ∃ f, e = .returned (.bool f) ∧ (f = true ↔ Goes x l) ∧ Below W.heap.size W w') := fun W u l h1 h2 h3 h4 => Try.goes_calls x vn vm u l W h1 HFI.out h3 h2 h4
      have hle : least x ≤ 1 := by unfold least; split <;> omega
      have hlo1 := HFI.out.lo
      have hTR := Lib.hid fun h1 => means_tour (x := x) h1 rr
      have hRT := Lib.hid fun h1 => means_routes HWL.out h1 rr
      have HCV := Lib.hid (cover_ok (x := x) (rr := rr))
      have HCN := Lib.hid fun (h : Cover x rr) r hr => cover_nodes h (r := r) hr
      obtain ⟨an, cn, rfl, _⟩ := hx.nodes.dat
      obtain ⟨am, cm, rfl, _⟩ := hx.matrix.dat
      obtain ⟨ap, cp, rfl⟩ := hv.len
      obtain ⟨i0, hio, hz0, hz1, hz2⟩ := info_parts Try.info3
      have HI := Lib.hid hio
      unfold insV at HW HC HGO ⊢
      unfold planV at HL HC ⊢
      obtain ⟨N, hN⟩ : ∃ N, rr.length = N := ⟨_, rfl⟩
      have HNN := Lib.hid hN
      rw [hN] at HV HL HC hN2 ⊢
      obtain ⟨L, hL⟩ : ∃ L, x.nodes.length = L := ⟨_, rfl⟩
      have HLL := Lib.hid hL
      rw [hL] at HW HX HC HGO HCV hn4 hlo1 ⊢
      clear hx hv hq hlo H hN hL hio HWL
      generalize x.matrix.length = M at *
      have HS0 := Lib.hid (lwS_start w x (.slice an L cn) (.slice am M cm) (.slice ap N cp))
      go_enter Try.func5, Try.ntmps5
      go_upto_region 3 with (first | (go_at_call 11; (with_reducible refine (HW.out _ (HX.out.next HS0.out.below)).mono ?_); rintro e w1 ⟨rfl, hb1⟩; have HS1 := Lib.hid (HS0.out.next hb1); obtain ⟨c0, c1, c2, c3, c4, c5, c6, c7, hp0, -⟩ := lwS_S HS1.out) | (go_at_call 12; (with_reducible refine (HL.out _ (HV.out.next HS1.out.below)).mono ?_); rintro e w3 ⟨rfl, hb3⟩; have HS3 := Lib.hid (HS1.out.next hb3); clear c0 c1 c2 c3 c4 c5 c6 c7 hp0; obtain ⟨c0, c1, c2, c3, c4, c5, c6, c7, hp0, -⟩ := lwS_S HS3.out) | (go_at_call 13; (with_reducible refine (HSH.out _).mono ?_); rintro e w2 ⟨rfl, hb2⟩; have HS4 := Lib.hid (HS3.out.next hb2); clear c0 c1 c2 c3 c4 c5 c6 c7 hp0; obtain ⟨c0, c1, c2, c3, c4, c5, c6, c7, hp0, -⟩ := lwS_S HS4.out))
      clear HS0 HS1 HS3 HW HL HSH hb1 hb2 hb3 HQ HFI HLN
      clear c0 c2 c3 c4 c5 c7
      go_upto_if 28 with (fail)
      go_cut [5] from 26 to 28 (fun q wx => q = .int .i64 (least x : Int) ∧ w2 = wx)
      case first =>
        by_cases k1 : x.kind = 1
        · have kb : (x.kind == 1) = true := beq_iff_eq.2 k1
          have e : Hid (least x = 0) := by unfold Hid least; rw [if_pos k1]
          clear k1
          go_wp2
          go_meet
          exact ⟨by rw [e.out]; rfl, rfl⟩
        · have kb : (x.kind == 1) = false := beq_eq_false_iff_ne.2 k1
          have e : Hid (least x = 1) := by unfold Hid least; rw [if_neg k1]
          clear k1
          go_wp2
          go_meet
          exact ⟨by rw [e.out]; rfl, rfl⟩
      case rest =>
      obtain ⟨rfl, rfl⟩ := hcut
      obtain ⟨lo, hlo0⟩ : ∃ lo, least x = lo := ⟨_, rfl⟩
      rw [hlo0] at HCV hle ⊢
      clear hlo0
      have HM0 := Lib.hid (mnS_start HS4.out)
      go_wp2_with (fail)
      go_loopw [6, 7, 8, 9] (fun fn fl sn i wr => ∃ a : Nat, a ≤ N ∧ i = .int .i64 (a : Int) ∧ fn = .bool (okB (lo : Int) (L : Int) (rr.take a).flatten) ∧ fl = .int .i64 (full (rr.take a) : Int) ∧ MnS w x (.slice an L cn) (.slice am M cm) (.slice ap N cp) sn (rr.take a).flatten wr) (fun _ _ _ i _ => N - (intOf i).toNat)
      case atStart => exact ⟨0, Nat.zero_le _, rfl, rfl, rfl, HM0.out⟩
      case round =>
        obtain ⟨a, ha, rfl, rfl, rfl, hS⟩ := hrel
        have HS := Lib.hid hS
        clear hS HM0 c1 c6 hp0
        obtain ⟨c0, c1, c2, c3, c4, c5, c6, c7, hp0, -⟩ := lwS_S HS.out.b
        clear c0 c2 c3 c4 c5 c7
        by_cases hlt : a < N
        · obtain ⟨l, hl⟩ : ∃ l, rr[a]? = some l := ⟨_, List.getElem?_eq_getElem (by have := HNN.out; omega)⟩
          have hai : (a : Int) < (N : Int) := by omega
          have hmt := many_take hl
          have hmle := many_take_le rr (a + 1)
          have hfl := full_le (rr.take a)
          rw [List.length_take] at hfl
          obtain ⟨b4, off4, cap4, u4, e4, _, hbw4, hc4, hu4⟩ := HV.out.get hl (Nat.le_refl _) (Below.refl _ w)
          rw [HNN.out] at e4
          injection e4 with h1 h2 h3
          subst h1
          subst h3
          have HU := Lib.hid hu4
          obtain ⟨a5, k5, rfl⟩ := hu4.len
          have hc4' := (HS.out.b.below.cell (p := ⟨b4, off4 + a, none⟩) hbw4).trans hc4
          have HFS := Lib.hid (full_step hl)
          have HFT := Lib.hid (flat_step hl)
          rw [many_flat (rr.take a)] at hmt
          obtain ⟨M5, hM5⟩ : ∃ M5, l.length = M5 := ⟨_, rfl⟩
          rw [hM5] at hmt HU hc4' HFS
          have HM5 := Lib.hid hM5
          clear hl h2 hu4 hc4 hM5
          generalize (rr.take a).flatten = P at *
          generalize full (rr.take a) = F at *
          have hPl : P.length + M5 ≤ 300 := by omega
          have hF : F ≤ 200 := by omega
          have HPL := Lib.hid hPl
          have hM5b : M5 ≤ 300 := by omega
          clear hmt hmle hfl hPl
          go_upto_if 44 with (fail)
          go_cut [7] from 42 to 46 (fun fl wx => fl = .int .i64 (full (rr.take (a + 1)) : Int) ∧ wr = wx)
          case first =>
            by_cases h0 : 0 < M5
            · have hi : (0 : Int) < (M5 : Int) := by omega
              have H0 := Lib.hid h0
              clear h0
              go_wp2
              go_meet
              exact ⟨by rw [HFS.out, if_pos H0.out]; rfl, rfl⟩
            · have hi : ¬ (0 : Int) < (M5 : Int) := by omega
              have H0 := Lib.hid h0
              clear h0
              go_wp2
              go_meet
              exact ⟨by rw [HFS.out, if_neg H0.out]; rfl, rfl⟩
          case rest =>
          obtain ⟨rfl, rfl⟩ := hcut
          clear HFS
          go_wp2_with (fail)
          go_loopw [6, 8, 11] (fun fn sn k wr => ∃ q : Nat, q ≤ M5 ∧ k = .int .i64 (q : Int) ∧ fn = .bool (okB (lo : Int) (L : Int) (P ++ l.take q)) ∧ MnS w x (.slice an L cn) (.slice am M cm) (.slice (some ⟨b4, off4, none⟩) N cp) sn (P ++ l.take q) wr) (fun _ _ k _ => M5 - (intOf k).toNat)
          case atStart => exact ⟨0, Nat.zero_le _, rfl, by rw [List.take_zero, List.append_nil], by rw [List.take_zero, List.append_nil]; exact HS.out⟩
          case round =>
            obtain ⟨q, hq, rfl, rfl, hS⟩ := hrel
            have HS2 := Lib.hid hS
            clear hS HS c1 c6 hp0 hc4'
            obtain ⟨c0, c1, c2, c3, c4, c5, c6, c7, hp0, -⟩ := lwS_S HS2.out.b
            clear c0 c1 c2 c3 c4 c5 c7 hp0
            by_cases hqm : q < M5
            · have hqi : (q : Int) < (M5 : Int) := by omega
              obtain ⟨s, hs⟩ : ∃ s, l[q]? = some s := ⟨_, List.getElem?_eq_getElem (by have := HM5.out; omega)⟩
              obtain ⟨b6, off6, cap6, e6, _, _, hbw6, hc6⟩ := HU.out.atc hs
              injection e6 with h1 h2 h3
              subst h1
              subst h3
              clear h2
              have hc6' := (HS2.out.b.below.cell (p := ⟨b6, off6 + q, none⟩) hbw6).trans hc6
              have HSN : Hid (P ++ l.take (q + 1) = (P ++ l.take q) ++ [s]) := by unfold Hid; rw [ptake_snoc hs, List.append_assoc]
              have hT : (P ++ l.take q).length + 1 ≤ 300 := by have := HPL.out; rw [List.length_append, List.length_take]; omega
              clear hs
              generalize P ++ l.take q = S at *
              have HOS := Lib.hid (okB_snoc (lo : Int) (L : Int) S s)
              obtain ⟨so, sc, rfl⟩ := owns_dat HS2.out.row
              obtain ⟨T, hTT⟩ : ∃ T, S.length = T := ⟨_, rfl⟩
              rw [hTT] at hT ⊢
              have HTT := Lib.hid hTT
              clear hTT
              go_wp2_with (fail)
              go_cut [6] from 53 to 71 (fun fn wx => fn = .bool (okB (lo : Int) (L : Int) S && decide ((lo : Int) ≤ s) && decide (s < (L : Int))) ∧ MnS w x (.slice an L cn) (.slice am M cm) (.slice (some ⟨b4, off4, none⟩) N cp) (.slice so T sc) S wx)
              case first =>
                have HS2' : Hid (MnS w x (.slice an L cn) (.slice am M cm) (.slice (some ⟨b4, off4, none⟩) N cp) (.slice so T sc) S wr) := by have h := HS2.out; rw [HTT.out] at h; exact h
                cases hok : okB (lo : Int) (L : Int) S with
                | false =>
                  have e : Hid ((okB (lo : Int) (L : Int) S && decide ((lo : Int) ≤ s) && decide (s < (L : Int))) = false) := by unfold Hid; rw [hok]; rfl
                  clear hok
                  go_quiet (fail)
                  go_wp2
                  go_meet
                  exact ⟨by rw [e.out], HS2'.drewN _⟩
                | true =>
                  by_cases g1 : (lo : Int) ≤ s
                  · by_cases g2 : s < (L : Int)
                    · have e : Hid ((okB (lo : Int) (L : Int) S && decide ((lo : Int) ≤ s) && decide (s < (L : Int))) = true) := by unfold Hid; rw [hok, decide_eq_true g1, decide_eq_true g2]; rfl
                      go_quiet (fail)
                      go_wp2
                      go_meet
                      exact ⟨by rw [e.out], HS2'.drewN _⟩
                    · have e : Hid ((okB (lo : Int) (L : Int) S && decide ((lo : Int) ≤ s) && decide (s < (L : Int))) = false) := by unfold Hid; rw [decide_eq_false g2, Bool.and_false]
                      go_quiet (fail)
                      go_wp2
                      go_meet
                      exact ⟨by rw [e.out], HS2'.drewN _⟩
                  · have e : Hid ((okB (lo : Int) (L : Int) S && decide ((lo : Int) ≤ s) && decide (s < (L : Int))) = false) := by unfold Hid; rw [hok, decide_eq_false g1]; rfl
                    go_quiet (fail)
                    go_wp2
                    go_meet
                    exact ⟨by rw [e.out], HS2'.drewN _⟩
              case rest =>
              obtain ⟨rfl, hS5⟩ := hcut
              have HS5 := Lib.hid hS5
              clear hS5 c6 hc6' HS2
              obtain ⟨F1, hF1⟩ : ∃ F1, (okB (lo : Int) (L : Int) S && decide ((lo : Int) ≤ s) && decide (s < (L : Int))) = F1 := ⟨_, rfl⟩
              rw [hF1] at HOS ⊢
              clear hF1
              go_wp2_with (fail)
              go_loopw [6, 12] (fun fn j wr => ∃ z : Nat, z ≤ T ∧ j = .int .i64 (z : Int) ∧ fn = .bool (F1 && !decide (s ∈ S.take z)) ∧ MnS w x (.slice an L cn) (.slice am M cm) (.slice (some ⟨b4, off4, none⟩) N cp) (.slice so T sc) S wr) (fun _ j _ => T - (intOf j).toNat)
              case atStart => exact ⟨0, Nat.zero_le _, rfl, by rw [List.take_zero]; simp, HS5.out⟩
              case round =>
                obtain ⟨z, hz, rfl, rfl, hS⟩ := hrel
                have HS6 := Lib.hid hS
                clear hS HS5
                have hc7 := (HS6.out.b.below.cell (p := ⟨b6, off6 + q, none⟩) hbw6).trans hc6
                by_cases hzt : z < T
                · have hzi : (z : Int) < (T : Int) := by omega
                  obtain ⟨y, hy⟩ : ∃ y, S[z]? = some y := ⟨_, List.getElem?_eq_getElem (by have := HTT.out; omega)⟩
                  obtain ⟨b8, off8, cap8, e8, _, _, _, hc8⟩ := (hasInts_of_owns HS6.out.row).atc hy
                  injection e8 with h1 h2 h3
                  subst h1
                  subst h3
                  have HZ : Hid ((F1 && !decide (s ∈ S.take (z + 1))) = ((F1 && !decide (s ∈ S.take z)) && (y != s))) := by
                    unfold Hid
                    have h : (s ∈ S.take z ++ [y]) ↔ (s ∈ S.take z ∨ y = s) := by rw [List.mem_append, List.mem_singleton, eq_comm (a := y)]
                    rw [ptake_snoc hy, decide_eq_decide.2 h, Bool.decide_or, Bool.not_or, Bool.and_assoc]
                    rfl
                  clear hy h2
                  cases hv : (F1 && !decide (s ∈ S.take z)) with
                  | false =>
                    rw [hv] at HZ
                    clear hv
                    go_wp2_with (fail)
                    go_quiet (fail)
                    go_wp2
                    go_roundw
                    case rel => exact ⟨z + 1, by omega, by go_num, by rw [HZ.out]; rfl, HS6.out.drewN _⟩
                    case measure => simp [intOf]; omega
                  | true =>
                    rw [hv, Bool.true_and] at HZ
                    clear hv
                    cases he : (y != s) with
                    | true =>
                      rw [he] at HZ
                      go_wp2_with (fail)
                      go_quiet (fail)
                      go_wp2
                      go_roundw
                      case rel => exact ⟨z + 1, by omega, by go_num, by rw [HZ.out], HS6.out.drewN _⟩
                      case measure => simp [intOf]; omega
                    | false =>
                      rw [he] at HZ
                      go_wp2_with (fail)
                      go_quiet (fail)
                      go_wp2
                      go_roundw
                      case rel => exact ⟨z + 1, by omega, by go_num, by rw [HZ.out], HS6.out.drewN _⟩
                      case measure => simp [intOf]; omega
                · obtain rfl : z = T := by omega
                  have hst : S.take z = S := List.take_of_length_le (by have := HTT.out; omega)
                  rw [hst, ← HOS.out]
                  clear hst
                  have hml : z + 1 ≤ maxLen := by unfold maxLen; omega
                  have hml2 : (z + 1) * 8 ≤ 140737488355328 := by omega
                  clear HOS hzt
                  go_upto_region 23 with (fail)
                  have HS6' := HS6.out
                  obtain ⟨on, hon⟩ : ∃ on, on = Value.slice so z sc := ⟨_, rfl⟩
                  rw [← hon] at HS6' ⊢
                  have HS8 := Lib.hid HS6'
                  clear HS6' HS6 hon
                  have hs2 : w.heap.size + 2 ≤ wr.heap.size := HS8.out.b.pbox.2
                  have HRW : Hid ((wr.alloc (.cells #[.int .i64 s] 3)).ownsRow (w.heap.size + 2) 3 1 on z (S.map intV)) := by have h := (HS8.out.next (fbelow_box wr (.cells #[.int .i64 s] 3))).row; rw [HTT.out] at h; exact h
                  have HGW : Hid (∀ v' w5, w5.ownsRow (w.heap.size + 2) 3 1 v' (z + 1) (S.map intV ++ [.int .i64 s]) → (wr.alloc (.cells #[.int .i64 s] 3)).grownBy w5 on.ownBlock → MnS w x (.slice an L cn) (.slice am M cm) (.slice (some ⟨b4, off4, none⟩) N cp) v' (S ++ [s]) w5) := fun v' w5 h1 h2 => (HS8.out.next (fbelow_box wr _)).grow h2 (by rw [List.map_append, List.length_append, HTT.out]; exact h1)
                  go_wp2_with (at_builtin; refine wpList_append_own _ rfl _ _ 23 rfl (w.heap.size + 2) 3 i0 (.int .i64 0) 1 8 Try.underlying23 HI.out hz0 hz1 hz2 rfl (by decide) on z (S.map intV) rfl HRW.out ⟨wr.heap.size, 0, none⟩ 1 1 [.int .i64 s] rfl rfl (cells_one wr _ _) (by simp [Value.oneCell']) hml hml2 (by simp; omega) ?_; intro v' w5 hown' hgrow _; have HS7 := Lib.hid (HGW.out v' w5 hown' hgrow); clear hown' hgrow)
                  go_roundw
                  case rel => exact ⟨q + 1, by omega, by go_num, by rw [HSN.out], by rw [HSN.out]; exact HS7.out⟩
                  case measure => simp [intOf]; omega
            · obtain rfl : q = M5 := by omega
              have hql : l.take q = l := List.take_of_length_le (by have := HM5.out; omega)
              rw [hql] at HS2 ⊢
              rw [← HFT.out] at HS2 ⊢
              go_wp2_with (fail)
              go_roundw
              case rel => exact ⟨a + 1, by omega, by go_num, rfl, rfl, HS2.out⟩
              case measure => simp [intOf]; omega
        · obtain rfl : a = N := by omega
          have hral : rr.take a = rr := List.take_of_length_le (by have := HNN.out; omega)
          rw [hral] at HS ⊢
          have hfl := full_le rr
          have hfm : rr.flatten.length ≤ 300 := by rw [← many_flat]; omega
          have HFM := Lib.hid hmn
          obtain ⟨so, sc, rfl⟩ := owns_dat HS.out.row
          obtain ⟨T, hTT⟩ : ∃ T, rr.flatten.length = T := ⟨_, rfl⟩
          rw [hTT] at hfm HCV ⊢
          clear hTT hral hlt
          have HB := Lib.hid HS.out.b
          clear HS
          generalize okB (lo : Int) (L : Int) rr.flatten = OK at *
          go_upto_region 24 with (fail)
          obtain ⟨W9, hW9⟩ : ∃ W9, W9 = wr := ⟨_, rfl⟩
          rw [← hW9] at HB c1 c6 hp0 ⊢
          clear hW9
          go_cut [6] from 97 to 107 (fun fn wx => fn = .bool (OK && decide (T = L - lo)) ∧ W9 = wx)
          case first =>
            cases OK with
            | false =>
              go_wp2
              go_meet
              exact ⟨rfl, rfl⟩
            | true =>
              by_cases ht : T = L - lo
              · have e : Hid (decide (T = L - lo) = true) := decide_eq_true ht
                have hb : ((T : Int) == (L : Int) - (lo : Int)) = true := beq_iff_eq.2 (by omega)
                clear ht
                go_wp2
                go_meet
                exact ⟨by rw [e.out]; rfl, rfl⟩
              · have e : Hid (decide (T = L - lo) = false) := decide_eq_false ht
                have hb : ((T : Int) == (L : Int) - (lo : Int)) = false := beq_eq_false_iff_ne.2 (by omega)
                clear ht
                go_wp2
                go_meet
                exact ⟨by rw [e.out]; rfl, rfl⟩
          case rest =>
          obtain ⟨rfl, rfl⟩ := hcut
          obtain ⟨C, hC⟩ : ∃ C, (OK && decide (T = L - lo)) = C := ⟨_, rfl⟩
          have HCC : Hid (Cover x rr ↔ C = true) := by
            unfold Hid
            rw [HCV.out, ← hC, Bool.and_eq_true, decide_eq_true_iff]
          rw [hC]
          clear hC HCV
          by_cases k1 : x.kind = 1
          · have hTR1 := hTR.out k1
            rw [HCC.out] at hTR1
            have kb : (x.kind == 1) = true := beq_iff_eq.2 k1
            have HT1 := Lib.hid hTR1
            clear k1 hTR1 hTR hRT
            obtain ⟨c0, c1, c2, c3, c4, c5, c6, c7, hp0, -⟩ := lwS_S HB.out
            generalize hfr : full rr = F at *
            clear hfr
            cases C with
            | false =>
              have hfe : feasB x rr = false := by rw [Bool.eq_false_iff, ne_eq, HT1.out]; simp
              rw [hfe] at HC
              clear hfe
              go_wp2_with (go_at_call 19; (with_reducible refine (HC.out _ (HX.out.next HB.out.below) (HV.out.next HB.out.below)).mono ?_); rintro e w5 ⟨rfl, hb5⟩)
              go_ret
              exact ⟨rfl, HB.out.below.trans (hb5.mono HB.out.below.size)⟩
            | true =>
              by_cases hF1 : F = 1
              · have hfe : feasB x rr = true := HT1.out.2 ⟨rfl, hF1⟩
                rw [hfe] at HC
                have hb : ((F : Int) == 1) = true := by rw [hF1]; rfl
                clear hfe hF1
                go_wp2_with (go_at_call 19; (with_reducible refine (HC.out _ (HX.out.next HB.out.below) (HV.out.next HB.out.below)).mono ?_); rintro e w5 ⟨rfl, hb5⟩)
                go_ret
                exact ⟨rfl, HB.out.below.trans (hb5.mono HB.out.below.size)⟩
              · have hfe : feasB x rr = false := by rw [Bool.eq_false_iff, ne_eq, HT1.out]; exact fun h => hF1 h.2
                rw [hfe] at HC
                have hb : ((F : Int) == 1) = false := beq_eq_false_iff_ne.2 (by omega)
                clear hfe hF1
                go_wp2_with (go_at_call 19; (with_reducible refine (HC.out _ (HX.out.next HB.out.below) (HV.out.next HB.out.below)).mono ?_); rintro e w5 ⟨rfl, hb5⟩)
                go_ret
                exact ⟨rfl, HB.out.below.trans (hb5.mono HB.out.below.size)⟩
          · have hRT1 := hRT.out k1
            have kb : (x.kind == 1) = false := beq_eq_false_iff_ne.2 k1
            rw [HCC.out] at hRT1
            have HR1 := Lib.hid hRT1
            clear k1 hRT1 hTR hRT
            obtain ⟨c0, c1, c2, c3, c4, c5, c6, c7, hp0, -⟩ := lwS_S HB.out
            generalize hfr : full rr = F at *
            clear hfr
            go_upto_region 27 with (fail)
            go_cut [6] from 120 to 131 (fun fn wx => fn = .bool (C && (decide (x.fleet = 0) || decide ((F : Int) ≤ x.fleet))) ∧ W9 = wx)
            case first =>
              cases C with
              | false =>
                go_wp2
                go_meet
                exact ⟨rfl, rfl⟩
              | true =>
                by_cases h0 : x.fleet = 0
                · have e : Hid (decide (x.fleet = 0) = true) := decide_eq_true h0
                  have hb : (x.fleet == 0) = true := beq_iff_eq.2 h0
                  clear h0
                  go_wp2
                  go_meet
                  exact ⟨by rw [e.out]; rfl, rfl⟩
                · have e : Hid (decide (x.fleet = 0) = false) := decide_eq_false h0
                  have hb : (x.fleet == 0) = false := beq_eq_false_iff_ne.2 h0
                  clear h0
                  by_cases h1 : (F : Int) ≤ x.fleet
                  · have e1 : Hid (decide ((F : Int) ≤ x.fleet) = true) := decide_eq_true h1
                    go_wp2
                    go_meet
                    exact ⟨by rw [e.out, e1.out]; rfl, rfl⟩
                  · have e1 : Hid (decide ((F : Int) ≤ x.fleet) = false) := decide_eq_false h1
                    go_wp2
                    go_meet
                    exact ⟨by rw [e.out, e1.out]; rfl, rfl⟩
            case rest =>
            obtain ⟨rfl, rfl⟩ := hcut
            obtain ⟨G, hG⟩ : ∃ G, (C && (decide (x.fleet = 0) || decide ((F : Int) ≤ x.fleet))) = G := ⟨_, rfl⟩
            have HG2 : Hid ((G = true → Cover x rr) ∧ (feasB x rr = true ↔ G = true ∧ ∀ r ∈ rr, Goes x r)) := by
              unfold Hid
              rw [HR1.out, HCC.out, ← hG, Bool.and_eq_true, Bool.or_eq_true, decide_eq_true_iff, decide_eq_true_iff]
              exact ⟨fun h => h.1, fun h => ⟨⟨h.1, h.2.1⟩, h.2.2⟩, fun h => ⟨h.1.1, h.1.2, h.2⟩⟩
            rw [hG]
            clear hG HR1 HCC c0 c1 c2 c3 c4 c5 c6 c7 hp0
            go_wp2_with (fail)
            go_loopw [6, 13] (fun fn j wr => ∃ z : Nat, z ≤ a ∧ j = .int .i64 (z : Int) ∧ (∃ f, fn = .bool f ∧ (f = true ↔ G = true ∧ ∀ r ∈ rr.take z, Goes x r)) ∧ LwS w x (.slice an L cn) (.slice am M cm) (.slice ap a cp) wr) (fun _ j _ => a - (intOf j).toNat)
            case atStart => exact ⟨0, Nat.zero_le _, rfl, ⟨G, rfl, by simp⟩, HB.out⟩
            case round =>
              obtain ⟨z, hz, rfl, ⟨f, rfl, hf⟩, hS⟩ := hrel
              have HS := Lib.hid hS
              have HF := Lib.hid hf
              clear hS HB hf
              obtain ⟨c0, c1, c2, c3, c4, c5, c6, c7, hp0, -⟩ := lwS_S HS.out
              have END : Hid (∀ f2 : Bool, (f2 = true ↔ G = true ∧ ∀ r ∈ rr, Goes x r) → feasB x rr = f2) := by
                intro f2 h2
                rw [Bool.eq_iff_iff, h2]
                exact HG2.out.2
              cases f with
              | false =>
                have hfe : feasB x rr = false := END.out false ⟨nofun, fun h => absurd (HF.out.2 ⟨h.1, fun r hr => h.2 r (List.mem_of_mem_take hr)⟩) (by simp)⟩
                rw [hfe] at HC
                clear hfe HF END HG2
                by_cases hza : z < a
                · have hzi : (z : Int) < (a : Int) := by omega
                  go_wp2_with (go_at_call 19; (with_reducible refine (HC.out _ (HX.out.next HS.out.below) (HV.out.next HS.out.below)).mono ?_); rintro e w5 ⟨rfl, hb5⟩)
                  go_ret
                  exact ⟨rfl, HS.out.below.trans (hb5.mono HS.out.below.size)⟩
                · have hzi : ¬ (z : Int) < (a : Int) := by omega
                  go_wp2_with (go_at_call 19; (with_reducible refine (HC.out _ (HX.out.next HS.out.below) (HV.out.next HS.out.below)).mono ?_); rintro e w5 ⟨rfl, hb5⟩)
                  go_ret
                  exact ⟨rfl, HS.out.below.trans (hb5.mono HS.out.below.size)⟩
              | true =>
                by_cases hza : z < a
                · obtain ⟨l, hl⟩ : ∃ l, rr[z]? = some l := ⟨_, List.getElem?_eq_getElem (by have := HNN.out; omega)⟩
                  have hzi : (z : Int) < (a : Int) := by omega
                  have hmt := many_take hl
                  have hmle := many_take_le rr (z + 1)
                  obtain ⟨b4, off4, cap4, u4, e4, _, hbw4, hc4, hu4⟩ := HV.out.get hl (Nat.le_refl _) (Below.refl _ w)
                  rw [HNN.out] at e4
                  injection e4 with h1 h2 h3
                  subst h1
                  subst h3
                  have HU := Lib.hid hu4
                  have hll : l.length ≤ 1000000 := by omega
                  have HLB := Lib.hid hll
                  have HND : Hid (nodesB x l = true) := HCN.out (HG2.out.1 (HF.out.1 rfl).1) l (List.mem_of_getElem? hl)
                  have HTK : Hid (∀ f2 : Bool, (f2 = true ↔ Goes x l) → (f2 = true ↔ G = true ∧ ∀ r ∈ rr.take (z + 1), Goes x r)) := by
                    intro f2 h2
                    have e : rr.take (z + 1) = rr.take z ++ [l] := by rw [List.take_add_one, hl]; rfl
                    rw [h2, e]
                    have h0 := HF.out.1 rfl
                    constructor
                    · intro hg
                      refine ⟨h0.1, fun r hr => ?_⟩
                      rcases List.mem_append.1 hr with hr | hr
                      · exact h0.2 r hr
                      · obtain rfl : r = l := by simpa using hr
                        exact hg
                    · intro h
                      exact h.2 l (by simp)
                  have hc4' := (HS.out.below.cell (p := ⟨b4, off4 + z, none⟩) hbw4).trans hc4
                  clear hl hmt hmle h2 hu4 hll END HG2 HC HF
                  go_upto_region 31 with (fail)
                  go_region_held3 (fun W => W.cell? ⟨w.heap.size, 0, none⟩ = some (.string x.name) ∧ W.cell? ⟨w.heap.size, 1, none⟩ = some (.int .i64 x.kind) ∧ W.cell? ⟨w.heap.size, 2, none⟩ = some (.int .i64 x.metric) ∧ W.cell? ⟨w.heap.size, 3, none⟩ = some (.int .i64 x.scale) ∧ W.cell? ⟨w.heap.size, 4, none⟩ = some (.int .i64 x.cap) ∧ W.cell? ⟨w.heap.size, 5, none⟩ = some (.int .i64 x.fleet) ∧ W.cell? ⟨w.heap.size, 6, none⟩ = some (.slice an L cn) ∧ W.cell? ⟨w.heap.size, 7, none⟩ = some (.slice am M cm) ∧ W.cell? ⟨w.heap.size + 1, 0, none⟩ = some (.slice (some ⟨b4, off4, none⟩) a cp) ∧ W.cell? ⟨b4, off4 + z, none⟩ = some u4 ∧ LwS w x (.slice an L cn) (.slice am M cm) (.slice (some ⟨b4, off4, none⟩) a cp) W)
                    ((go_split_ands; (first | exact lw_S HS.out.drew hbw4 hc4 | exact lw_S (by assumption) hbw4 hc4 | exact lw_S (LwS.next HS.out.drew (by assumption)) hbw4 hc4 | exact lw_S (LwS.drew (by assumption)) hbw4 hc4 | exact lw_S (LwS.next (by assumption) (by assumption)) hbw4 hc4)))
                    ((go_at_call 25; (with_reducible refine (HGO.out _ _ _ (HX.out.next HS.out.drew.below) (HU.out.next HS.out.drew.below) HLB.out HND.out).mono ?_); rintro e w6 ⟨f1, rfl, hf1, hb6⟩))
                  have T9 := (show _ ∧ _ ∧ _ ∧ _ ∧ _ ∧ _ ∧ _ ∧ _ ∧ _ ∧ _ ∧ LwS w x (.slice an L cn) (.slice am M cm) (.slice (some ⟨b4, off4, none⟩) a cp) w6 by assumption).2.2.2.2.2.2.2.2.2.2
                  have HS6 := Lib.hid T9
                  have HF1 := Lib.hid (HTK.out f1 hf1)
                  rename_i hh
                  clear hh T9 hf1
                  go_wp2
                  go_roundw
                  case rel => exact ⟨z + 1, by omega, by go_num, ⟨f1, rfl, HF1.out⟩, HS6.out⟩
                  case measure => simp [intOf]; omega
                · have hzi : ¬ (z : Int) < (a : Int) := by omega
                  have e : rr.take z = rr := List.take_of_length_le (by have := HNN.out; omega)
                  have hf9 := HF.out
                  rw [e] at hf9
                  have hfe : feasB x rr = true := END.out true hf9
                  rw [hfe] at HC
                  clear hfe HF END HG2 e hf9
                  go_wp2_with (go_at_call 19; (with_reducible refine (HC.out _ (HX.out.next HS.out.below) (HV.out.next HS.out.below)).mono ?_); rintro e w5 ⟨rfl, hb5⟩)
                  go_ret
                  exact ⟨rfl, HS.out.below.trans (hb5.mono HS.out.below.size)⟩
end Go.Proofs
