/- The law FeasChecks, as a contract. Conditions: what package feas answers. -/
import Derived.Test.YthgagmndefaniaaG10
import Derived.Test.YthgagmndefaniaaG22
import Derived.Deep.DrawnRows
import Derived.Deep.RegionHeld3
namespace Go.Proofs
open Go.RowKit Go.Shelf Go.Canon Go.Feas Go.Plans
attribute [local go_sem] Oper.semAt_some
attribute [local go_sem ↓] Go.wp_at_zero Go.wp_at_succ
theorem checkW_len (x : Ins) (rr : Rts) : (checkW x rr).length ≤ x.nodes.length + 1 + 2 * rr.length + 2 * many rr := by
  have := unks_len x rr 0
  have := cnts_len (least x) rr x.nodes.length
  have := fleetW_len x rr
  have := routesW_len x rr 0
  unfold checkW
  split
  · omega
  · rw [List.length_append, List.length_append]
    split
    · simp; omega
    · omega
/-- Beside the boxes: a list of wrongs. -/
structure PairS (w : World) (x : Ins) (vn vm vp u : Value) (K : List Wr) (W : World) : Prop where
  b : LwS w x vn vm vp W
  l : HasWrs W u K
theorem PairS.next {w W W' : World} {x : Ins} {vn vm vp u : Value} {K : List Wr} (h : PairS w x vn vm vp u K W) (hb : Below W.heap.size W W') : PairS w x vn vm vp u K W' := ⟨h.b.next hb, h.l.next hb⟩
theorem PairS.drew {w W : World} {x : Ins} {vn vm vp u : Value} {K : List Wr} (h : PairS w x vn vm vp u K W) : PairS w x vn vm vp u K W.drew := ⟨h.b.drew, h.l.next ((Below.refl _ _).drew)⟩
theorem pairS_S {w W : World} {x : Ins} {vn vm vp u : Value} {K : List Wr} (h : PairS w x vn vm vp u K W) : W.cell? ⟨w.heap.size, 0, none⟩ = some (.string x.name) ∧ W.cell? ⟨w.heap.size, 1, none⟩ = some (.int .i64 x.kind) ∧ W.cell? ⟨w.heap.size, 2, none⟩ = some (.int .i64 x.metric) ∧ W.cell? ⟨w.heap.size, 3, none⟩ = some (.int .i64 x.scale) ∧ W.cell? ⟨w.heap.size, 4, none⟩ = some (.int .i64 x.cap) ∧ W.cell? ⟨w.heap.size, 5, none⟩ = some (.int .i64 x.fleet) ∧ W.cell? ⟨w.heap.size, 6, none⟩ = some vn ∧ W.cell? ⟨w.heap.size, 7, none⟩ = some vm ∧ W.cell? ⟨w.heap.size + 1, 0, none⟩ = some vp ∧ PairS w x vn vm vp u K W := by
  obtain ⟨c0, c1, c2, c3, c4, c5, c6, c7, hp, hb⟩ := lwS_S h.b
  exact ⟨c0, c1, c2, c3, c4, c5, c6, c7, hp, h⟩
set_option maxRecDepth 100000 in
set_option maxHeartbeats 4000000 in
theorem Try.FeasChecks_calls (H : Try.FeasC) (x : Ins) (vn vm v : Value) (rr : Rts) (w : World) (hx : HasIns w vn vm x) (hv : HasRts w v rr) :
    Calls Try.prog 3 #[insV x vn vm, planV v] w fun e w' => e = .returned (.bool true) ∧ Below w.heap.size w w' := by
  have HX := Lib.hid hx
  have HV := Lib.hid hv
  have HSH := Lib.hid fun W => Try.fshown_calls H W
  cases hq : wellQ x with
  | false =>
    have HW : Hid (∀ W, HasIns W vn vm x → Calls Try.prog 11 #[insV x vn vm] W fun e w' => e = .returned (.bool false) ∧ Below W.heap.size W w') := fun W h => hq ▸ Try.lwell_calls x vn vm W h
    obtain ⟨an, cn, rfl, _⟩ := hx.nodes.dat
    obtain ⟨am, cm, rfl, _⟩ := hx.matrix.dat
    obtain ⟨ap, cp, rfl⟩ := hv.len
    unfold insV at HW ⊢
    unfold planV
    clear hx hv hq H
    generalize x.nodes.length = L at *
    generalize x.matrix.length = M at *
    generalize rr.length = N at *
    have HS0 := Lib.hid (lwS_start w x (.slice an L cn) (.slice am M cm) (.slice ap N cp))
    go_enter Try.func3, Try.ntmps3
    go_wp2_with (first | (go_at_call 11; (with_reducible refine (HW.out _ (HX.out.next HS0.out.below)).mono ?_); rintro e w1 ⟨rfl, hb1⟩; have HS1 := Lib.hid (HS0.out.next hb1)) | (go_at_call 13; (with_reducible refine (HSH.out _).mono ?_); rintro e w2 ⟨rfl, hb2⟩))
    go_ret
    exact ⟨rfl, HS1.out.below.trans (hb2.mono HS1.out.below.size)⟩
  | true =>
    have HW : Hid (∀ W, HasIns W vn vm x → Calls Try.prog 11 #[insV x vn vm] W fun e w' => e = .returned (.bool true) ∧ Below W.heap.size W w') := fun W h => hq ▸ Try.lwell_calls x vn vm W h
    have HQ := Lib.hid (wellQ_iff.1 hq)
    cases hlo : longQ rr with
    | true =>
      have HL : Hid (∀ W, HasRts W v rr → Calls Try.prog 12 #[planV v] W fun e w' => e = .returned (.bool true) ∧ Below W.heap.size W w') := fun W h => hlo ▸ Try.feasLong_calls v rr W h
      obtain ⟨an, cn, rfl, _⟩ := hx.nodes.dat
      obtain ⟨am, cm, rfl, _⟩ := hx.matrix.dat
      obtain ⟨ap, cp, rfl⟩ := hv.len
      unfold insV at HW ⊢
      unfold planV at HL ⊢
      clear hx hv hq hlo H HQ
      generalize x.nodes.length = L at *
      generalize x.matrix.length = M at *
      generalize rr.length = N at *
      have HS0 := Lib.hid (lwS_start w x (.slice an L cn) (.slice am M cm) (.slice ap N cp))
      go_enter Try.func3, Try.ntmps3
      go_wp2_with (first | (go_at_call 11; (with_reducible refine (HW.out _ (HX.out.next HS0.out.below)).mono ?_); rintro e w1 ⟨rfl, hb1⟩; have HS1 := Lib.hid (HS0.out.next hb1); obtain ⟨c0, c1, c2, c3, c4, c5, c6, c7, hp0, -⟩ := lwS_S HS1.out) | (go_at_call 12; (with_reducible refine (HL.out _ (HV.out.next HS1.out.below)).mono ?_); rintro e w3 ⟨rfl, hb3⟩; have HS3 := Lib.hid (HS1.out.next hb3)) | (go_at_call 13; (with_reducible refine (HSH.out _).mono ?_); rintro e w2 ⟨rfl, hb2⟩))
      go_ret
      exact ⟨rfl, HS3.out.below.trans (hb2.mono HS3.out.below.size)⟩
    | false =>
      have HL : Hid (∀ W, HasRts W v rr → Calls Try.prog 12 #[planV v] W fun e w' => e = .returned (.bool false) ∧ Below W.heap.size W w') := fun W h => hlo ▸ Try.feasLong_calls v rr W h
      have HFI := Lib.hid (fine_of HQ.out.well)
      have hN2 := (longQ_fits hlo).1
      have hmn := (longQ_fits hlo).2
      have HLN := Lib.hid (longQ_fits hlo)
      have hZ1 : (checkW x rr).length ≤ 1000000 := by have := checkW_len x rr; have := HQ.out.nodes; obtain ⟨_, _⟩ := HLN.out; omega
      have HC : Hid (∀ W, HasIns W vn vm x → HasRts W v rr → Calls Try.prog 14 #[insV x vn vm, planV v] W fun e w' => ∃ v', e = .returned v' ∧ HasWrs w' v' (checkW x rr) ∧ Below W.heap.size W w') := fun W h1 h2 => H.check x vn vm v rr W h1 HFI.out (by omega) (by omega) h2
      have HF : Hid (∀ W, HasIns W vn vm x → HasRts W v rr → Calls Try.prog 19 #[insV x vn vm, planV v] W fun e w' => e = .returned (.bool (feasB x rr)) ∧ Below W.heap.size W w') := fun W h1 h2 => H.feasible x vn vm v rr W h1 HFI.out (by omega) (by omega) h2
      have HRC : Hid (∀ u W, HasIns W u vm x → HasRts W v rr → Calls Try.prog 17 #[insV x u vm, planV v] W fun e w' => ∃ v', e = .returned v' ∧ HasWrs w' v' (checkW x rr) ∧ Below W.heap.size W w') := fun u W h1 h2 => Try.RCheck_any x u vm v rr W h1 HFI.out (by omega) (by omega) h2
      have HIT : Hid (∀ W, HasIns W vn vm x → Calls Try.prog 18 #[insV x vn vm] W fun e w' => ∃ v', e = .returned (insV x v' vm) ∧ HasIns w' v' vm x ∧ Below W.heap.size W w') := fun W h => Try.its_any x vn vm W h (by have := HQ.out.nodes; omega)
      obtain ⟨an, cn, rfl, _⟩ := hx.nodes.dat
      obtain ⟨am, cm, rfl, _⟩ := hx.matrix.dat
      obtain ⟨ap, cp, rfl⟩ := hv.len
      unfold insV at HW HC HF HRC HIT ⊢
      unfold planV at HL HC HF HRC ⊢
      clear hx hv hq hlo H
      generalize x.nodes.length = L at *
      generalize x.matrix.length = M at *
      generalize rr.length = N at *
      have HS0 := Lib.hid (lwS_start w x (.slice an L cn) (.slice am M cm) (.slice ap N cp))
      go_enter Try.func3, Try.ntmps3
      go_upto_region 3 with (first | (go_at_call 11; (with_reducible refine (HW.out _ (HX.out.next HS0.out.below)).mono ?_); rintro e w1 ⟨rfl, hb1⟩; have HS1 := Lib.hid (HS0.out.next hb1); obtain ⟨c0, c1, c2, c3, c4, c5, c6, c7, hp0, -⟩ := lwS_S HS1.out) | (go_at_call 12; (with_reducible refine (HL.out _ (HV.out.next HS1.out.below)).mono ?_); rintro e w3 ⟨rfl, hb3⟩; have HS3 := Lib.hid (HS1.out.next hb3); clear c0 c1 c2 c3 c4 c5 c6 c7 hp0; obtain ⟨c0, c1, c2, c3, c4, c5, c6, c7, hp0, -⟩ := lwS_S HS3.out) | (go_at_call 13; (with_reducible refine (HSH.out _).mono ?_); rintro e w2 ⟨rfl, hb2⟩; have HS4 := Lib.hid (HS3.out.next hb2); clear c0 c1 c2 c3 c4 c5 c6 c7 hp0; obtain ⟨c0, c1, c2, c3, c4, c5, c6, c7, hp0, -⟩ := lwS_S HS4.out))
      clear HS0 HS1 HS3 HW HL HSH hb1 hb2 hb3
      go_wp2_with (go_at_call 14; (with_reducible refine (HC.out _ (HX.out.next HS4.out.below) (HV.out.next HS4.out.below)).mono ?_); rintro e w4 ⟨v4, rfl, hv4, hb4⟩; have HS5 := Lib.hid (HS4.out.next hb4); have HP : Hid (PairS w x (.slice an L cn) (.slice am M cm) (.slice ap N cp) v4 (checkW x rr) w4) := ⟨HS4.out.next hb4, hv4⟩; obtain ⟨la, lc, rfl, _⟩ := hv4.dat; clear hv4 hb4 c0 c1 c2 c3 c4 c5 c6 c7 hp0; obtain ⟨c0, c1, c2, c3, c4, c5, c6, c7, hp0, -⟩ := lwS_S HS5.out)
      have HSM : Hid (∀ u1 u2 W, HasWrs W u1 (checkW x rr) → HasWrs W u2 (checkW x rr) → Calls Try.prog 15 #[u1, u2] W fun e w' => e = .returned (.bool true) ∧ Below W.heap.size W w') := fun u1 u2 W h1 h2 => (Try.rsameW_calls u1 u2 _ _ W hZ1 hZ1 h1 h2).mono fun e w' h => ⟨h.1.trans (by rw [decide_eq_true rfl]), h.2⟩
      have HTH : Hid (∀ W, HasWrs W (.slice la (checkW x rr).length lc) (checkW x rr) → Calls Try.prog 16 #[.slice la (checkW x rr).length lc] W fun e w' => ∃ v', e = .returned v' ∧ HasWrs w' v' (checkW x rr) ∧ Below W.heap.size W w') := fun W h => (Try.theirs_calls _ _ W hZ1 h).mono fun e w' ⟨v', h1, h2, h3⟩ => ⟨v', h1, wrs_of_owns h2, h3⟩
      have hfb : feasB x rr = decide ((checkW x rr).length = 0) := by unfold feasB; rw [decide_eq_decide]; exact List.length_eq_zero_iff.symm
      rw [hfb] at HF
      clear hfb hZ1 HC HS4 HS5 HQ HFI
      generalize checkW x rr = K at *
      obtain ⟨Z, hZ⟩ : ∃ Z, K.length = Z := ⟨_, rfl⟩
      rw [hZ] at HF HTH HP ⊢
      clear hZ
      clear c0 c1 c2 c3 c4 c5 c6 c7 hp0
      by_cases hz : Z = 0
      · rw [decide_eq_true hz] at HF
        subst hz
        go_region_held3 (fun W => W.cell? ⟨w.heap.size, 0, none⟩ = some (.string x.name) ∧ W.cell? ⟨w.heap.size, 1, none⟩ = some (.int .i64 x.kind) ∧ W.cell? ⟨w.heap.size, 2, none⟩ = some (.int .i64 x.metric) ∧ W.cell? ⟨w.heap.size, 3, none⟩ = some (.int .i64 x.scale) ∧ W.cell? ⟨w.heap.size, 4, none⟩ = some (.int .i64 x.cap) ∧ W.cell? ⟨w.heap.size, 5, none⟩ = some (.int .i64 x.fleet) ∧ W.cell? ⟨w.heap.size, 6, none⟩ = some (.slice an L cn) ∧ W.cell? ⟨w.heap.size, 7, none⟩ = some (.slice am M cm) ∧ W.cell? ⟨w.heap.size + 1, 0, none⟩ = some (.slice ap N cp) ∧ PairS w x (.slice an L cn) (.slice am M cm) (.slice ap N cp) (.slice la 0 lc) K W)
          ((go_split_ands; (first | exact pairS_S (by assumption) | exact pairS_S HP.out.drew | exact pairS_S (PairS.drew (by assumption)) | exact pairS_S (PairS.next (by assumption) (by assumption)))))
          (first
                    | (go_at_call 16; (with_reducible refine (HTH.out _ (by go_split_ands; first | exact PairS.l (by assumption) | exact (PairS.drew (by assumption)).l)).mono ?_); rintro e w' ⟨v7, rfl, h7, hb⟩)
                    | (go_at_call 18; (with_reducible refine (HIT.out _ (by go_split_ands; first | exact HX.out.next (PairS.b (by assumption)).below | exact HX.out.next (PairS.drew (by assumption)).b.below)).mono ?_); rintro e w' ⟨v8, rfl, h8, hb⟩; (try have h7 := h7.next hb))
                    | (go_at_call 17; (with_reducible refine (HRC.out _ _ h8 (by go_split_ands; exact HV.out.next (PairS.b (by assumption)).below)).mono ?_); rintro e w' ⟨v9, rfl, h9, hb⟩; (try have h7 := h7.next hb))
                    | (go_at_call 15; (with_reducible refine (HSM.out _ _ _ h7 h9).mono ?_); rintro e w' ⟨rfl, hb⟩)
                    | (go_at_call 19; (with_reducible refine (HF.out _ (by go_split_ands; exact HX.out.next (PairS.b (by assumption)).below) (by go_split_ands; exact HV.out.next (PairS.b (by assumption)).below)).mono ?_); rintro e w' ⟨rfl, hb⟩))
        rename_i hh
        have T := (show _ ∧ _ ∧ _ ∧ _ ∧ _ ∧ _ ∧ _ ∧ _ ∧ _ ∧ PairS w x (.slice an L cn) (.slice am M cm) (.slice ap N cp) (.slice la 0 lc) K _ by assumption).2.2.2.2.2.2.2.2.2
        have BT := T.b.below
        clear hh T HP
        go_wp2
        go_ret
        exact ⟨rfl, BT⟩
      · rw [decide_eq_false hz] at HF
        have hz0 : ((Z : Int) == 0) = false := beq_eq_false_iff_ne.2 (by omega)
        go_region_held3 (fun W => W.cell? ⟨w.heap.size, 0, none⟩ = some (.string x.name) ∧ W.cell? ⟨w.heap.size, 1, none⟩ = some (.int .i64 x.kind) ∧ W.cell? ⟨w.heap.size, 2, none⟩ = some (.int .i64 x.metric) ∧ W.cell? ⟨w.heap.size, 3, none⟩ = some (.int .i64 x.scale) ∧ W.cell? ⟨w.heap.size, 4, none⟩ = some (.int .i64 x.cap) ∧ W.cell? ⟨w.heap.size, 5, none⟩ = some (.int .i64 x.fleet) ∧ W.cell? ⟨w.heap.size, 6, none⟩ = some (.slice an L cn) ∧ W.cell? ⟨w.heap.size, 7, none⟩ = some (.slice am M cm) ∧ W.cell? ⟨w.heap.size + 1, 0, none⟩ = some (.slice ap N cp) ∧ PairS w x (.slice an L cn) (.slice am M cm) (.slice ap N cp) (.slice la Z lc) K W)
          ((go_split_ands; (first | exact pairS_S (by assumption) | exact pairS_S HP.out.drew | exact pairS_S (PairS.drew (by assumption)) | exact pairS_S (PairS.next (by assumption) (by assumption)))))
          (first
                    | (go_at_call 16; (with_reducible refine (HTH.out _ (by go_split_ands; first | exact PairS.l (by assumption) | exact (PairS.drew (by assumption)).l)).mono ?_); rintro e w' ⟨v7, rfl, h7, hb⟩)
                    | (go_at_call 18; (with_reducible refine (HIT.out _ (by go_split_ands; first | exact HX.out.next (PairS.b (by assumption)).below | exact HX.out.next (PairS.drew (by assumption)).b.below)).mono ?_); rintro e w' ⟨v8, rfl, h8, hb⟩; (try have h7 := h7.next hb))
                    | (go_at_call 17; (with_reducible refine (HRC.out _ _ h8 (by go_split_ands; exact HV.out.next (PairS.b (by assumption)).below)).mono ?_); rintro e w' ⟨v9, rfl, h9, hb⟩; (try have h7 := h7.next hb))
                    | (go_at_call 15; (with_reducible refine (HSM.out _ _ _ h7 h9).mono ?_); rintro e w' ⟨rfl, hb⟩)
                    | (go_at_call 19; (with_reducible refine (HF.out _ (by go_split_ands; exact HX.out.next (PairS.b (by assumption)).below) (by go_split_ands; exact HV.out.next (PairS.b (by assumption)).below)).mono ?_); rintro e w' ⟨rfl, hb⟩))
        rename_i hh
        have T := (show _ ∧ _ ∧ _ ∧ _ ∧ _ ∧ _ ∧ _ ∧ _ ∧ _ ∧ PairS w x (.slice an L cn) (.slice am M cm) (.slice ap N cp) (.slice la Z lc) K _ by assumption).2.2.2.2.2.2.2.2.2
        have BT := T.b.below
        clear hh T HP
        go_wp2
        go_ret
        exact ⟨rfl, BT⟩
end Go.Proofs
