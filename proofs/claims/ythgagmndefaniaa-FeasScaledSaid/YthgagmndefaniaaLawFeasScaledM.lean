/- The law FeasScaled, as a contract. Conditions: what package feas answers. -/
import Derived.Test.YthgagmndefaniaaLawFeasChecksM
import Derived.Test.YthgagmndefaniaaG29
import Derived.Test.YthgagmndefaniaaG06
namespace Go.Proofs
open Go.RowKit Go.Shelf Go.Canon Go.Feas Go.Plans
attribute [local go_sem] Oper.semAt_some
attribute [local go_sem ↓] Go.wp_at_zero Go.wp_at_succ
theorem fine_64 {x : Ins} (h : Fine x) : ∀ d ∈ x.nodes, In64 d := by
  intro d hd
  obtain ⟨i, hi⟩ := List.mem_iff_getElem?.1 hd
  have e : at' x i = d := by simp [at', List.getD, hi]
  have := h.xy i
  rw [e] at this
  unfold In64
  omega
set_option maxRecDepth 100000 in
set_option maxHeartbeats 4000000 in
theorem Try.FeasScaled_calls (H : Try.FeasC) (x : Ins) (vn vm v : Value) (rr : Rts) (w : World) (hx : HasIns w vn vm x) (hv : HasRts w v rr) :
    Calls Try.prog 8 #[insV x vn vm, planV v] w fun e w' => e = .returned (.bool true) ∧ Below w.heap.size w w' := by
  have HX := Lib.hid hx
  have HV := Lib.hid hv
  have HSH := Lib.hid fun W => Try.fshown_calls H W
  cases hq : wellQ x with
  | false =>
    have HW : Hid (∀ W, HasIns W vn vm x → Calls Try.prog 11 #[insV x vn vm] W fun e w' => e = .returned (.bool false) ∧ Below W.heap.size W w') := fun W h => hq ▸ Try.lwell_calls x vn vm W h
    obtain ⟨an, cn, rfl, _⟩ := hx.nodes.dat
    obtain ⟨am, cm, rfl, _⟩ := hx.matrix.dat
    obtain ⟨ap, cp, rfl⟩ := hv.len
    unfold insV at HW ⊢
    unfold planV
    clear hx hv hq H
    generalize x.nodes.length = L at *
    generalize x.matrix.length = M at *
    generalize rr.length = N at *
    have HS0 := Lib.hid (lwS_start w x (.slice an L cn) (.slice am M cm) (.slice ap N cp))
    go_enter Try.func8, Try.ntmps8
    go_wp2_with (first | (go_at_call 11; (with_reducible refine (HW.out _ (HX.out.next HS0.out.below)).mono ?_); rintro e w1 ⟨rfl, hb1⟩; have HS1 := Lib.hid (HS0.out.next hb1)) | (go_at_call 13; (with_reducible refine (HSH.out _).mono ?_); rintro e w2 ⟨rfl, hb2⟩))
    go_ret
    exact ⟨rfl, HS1.out.below.trans (hb2.mono HS1.out.below.size)⟩
  | true =>
    have HW : Hid (∀ W, HasIns W vn vm x → Calls Try.prog 11 #[insV x vn vm] W fun e w' => e = .returned (.bool true) ∧ Below W.heap.size W w') := fun W h => hq ▸ Try.lwell_calls x vn vm W h
    have HQ := Lib.hid (wellQ_iff.1 hq)
    cases hlo : longQ rr with
    | true =>
      have HL : Hid (∀ W, HasRts W v rr → Calls Try.prog 12 #[planV v] W fun e w' => e = .returned (.bool true) ∧ Below W.heap.size W w') := fun W h => hlo ▸ Try.feasLong_calls v rr W h
      obtain ⟨an, cn, rfl, _⟩ := hx.nodes.dat
      obtain ⟨am, cm, rfl, _⟩ := hx.matrix.dat
      obtain ⟨ap, cp, rfl⟩ := hv.len
      unfold insV at HW ⊢
      unfold planV at HL ⊢
      clear hx hv hq hlo H HQ
      generalize x.nodes.length = L at *
      generalize x.matrix.length = M at *
      generalize rr.length = N at *
      have HS0 := Lib.hid (lwS_start w x (.slice an L cn) (.slice am M cm) (.slice ap N cp))
      go_enter Try.func8, Try.ntmps8
      go_wp2_with (first | (go_at_call 11; (with_reducible refine (HW.out _ (HX.out.next HS0.out.below)).mono ?_); rintro e w1 ⟨rfl, hb1⟩; have HS1 := Lib.hid (HS0.out.next hb1); obtain ⟨c0, c1, c2, c3, c4, c5, c6, c7, hp0, -⟩ := lwS_S HS1.out) | (go_at_call 12; (with_reducible refine (HL.out _ (HV.out.next HS1.out.below)).mono ?_); rintro e w3 ⟨rfl, hb3⟩; have HS3 := Lib.hid (HS1.out.next hb3)) | (go_at_call 13; (with_reducible refine (HSH.out _).mono ?_); rintro e w2 ⟨rfl, hb2⟩))
      go_ret
      exact ⟨rfl, HS3.out.below.trans (hb2.mono HS3.out.below.size)⟩
    | false =>
      have HL : Hid (∀ W, HasRts W v rr → Calls Try.prog 12 #[planV v] W fun e w' => e = .returned (.bool false) ∧ Below W.heap.size W w') := fun W h => hlo ▸ Try.feasLong_calls v rr W h
      have HFI := Lib.hid (fine_of HQ.out.well)
      have hN2 := (longQ_fits hlo).1
      have hmn := (longQ_fits hlo).2
      have HLN := Lib.hid (longQ_fits hlo)
      have hZ1 : (checkW x rr).length ≤ 1000000 := by have := checkW_len x rr; have := HQ.out.nodes; obtain ⟨_, _⟩ := HLN.out; omega
      have HC : Hid (∀ W, HasIns W vn vm x → HasRts W v rr → Calls Try.prog 14 #[insV x vn vm, planV v] W fun e w' => ∃ v', e = .returned v' ∧ HasWrs w' v' (checkW x rr) ∧ Below W.heap.size W w') := fun W h1 h2 => H.check x vn vm v rr W h1 HFI.out (by omega) (by omega) h2
      have HC2 : Hid (∀ un um W, HasIns W un um (norm x) → HasRts W v rr → Calls Try.prog 14 #[insV (norm x) un um, planV v] W fun e w' => ∃ v', e = .returned v' ∧ HasWrs w' v' (checkW x rr) ∧ Below W.heap.size W w') := fun un um W h1 h2 => by
        have h := H.check (norm x) un um v rr W h1 (fine_norm HFI.out) (by omega) (by omega) h2
        rw [check_normal HFI.out] at h
        exact h
      have HNO : Hid (∀ W, HasIns W vn vm x → Calls Try.prog 27 #[insV x vn vm] W fun e w' => ∃ un um, e = .returned (insV (norm x) un um) ∧ HasIns w' un um (norm x) ∧ Below W.heap.size W w') := fun W h => Try.norm_calls x vn vm W h (by have := HQ.out.nodes; omega) (by have := HQ.out.matrix; omega) (fine_64 HFI.out)
      have HSM : Hid (∀ u1 u2 W, HasWrs W u1 (checkW x rr) → HasWrs W u2 (checkW x rr) → Calls Try.prog 15 #[u1, u2] W fun e w' => e = .returned (.bool true) ∧ Below W.heap.size W w') := fun u1 u2 W h1 h2 => (Try.rsameW_calls u1 u2 _ _ W hZ1 hZ1 h1 h2).mono fun e w' h => ⟨h.1.trans (by rw [decide_eq_true rfl]), h.2⟩
      have HTH : Hid (∀ u W, HasWrs W u (checkW x rr) → Calls Try.prog 16 #[u] W fun e w' => ∃ v', e = .returned v' ∧ HasWrs w' v' (checkW x rr) ∧ Below W.heap.size W w') := fun u W h => (Try.theirs_calls _ _ W hZ1 h).mono fun e w' ⟨v', h1, h2, h3⟩ => ⟨v', h1, wrs_of_owns h2, h3⟩
      obtain ⟨an, cn, rfl, _⟩ := hx.nodes.dat
      obtain ⟨am, cm, rfl, _⟩ := hx.matrix.dat
      obtain ⟨ap, cp, rfl⟩ := hv.len
      unfold insV at HW HC HC2 HNO ⊢
      unfold planV at HL HC HC2 ⊢
      clear hx hv hq hlo H hZ1
      generalize x.nodes.length = L at *
      generalize x.matrix.length = M at *
      generalize rr.length = N at *
      have HS0 := Lib.hid (lwS_start w x (.slice an L cn) (.slice am M cm) (.slice ap N cp))
      go_enter Try.func8, Try.ntmps8
      go_upto_region 3 with (first | (go_at_call 11; (with_reducible refine (HW.out _ (HX.out.next HS0.out.below)).mono ?_); rintro e w1 ⟨rfl, hb1⟩; have HS1 := Lib.hid (HS0.out.next hb1); obtain ⟨c0, c1, c2, c3, c4, c5, c6, c7, hp0, -⟩ := lwS_S HS1.out) | (go_at_call 12; (with_reducible refine (HL.out _ (HV.out.next HS1.out.below)).mono ?_); rintro e w3 ⟨rfl, hb3⟩; have HS3 := Lib.hid (HS1.out.next hb3); clear c0 c1 c2 c3 c4 c5 c6 c7 hp0; obtain ⟨c0, c1, c2, c3, c4, c5, c6, c7, hp0, -⟩ := lwS_S HS3.out) | (go_at_call 13; (with_reducible refine (HSH.out _).mono ?_); rintro e w2 ⟨rfl, hb2⟩; have HS4 := Lib.hid (HS3.out.next hb2); clear c0 c1 c2 c3 c4 c5 c6 c7 hp0; obtain ⟨c0, c1, c2, c3, c4, c5, c6, c7, hp0, -⟩ := lwS_S HS4.out))
      clear HS0 HS1 HS3 HW HL HSH hb1 hb2 hb3
      clear HQ HFI c0 c1 c2 c3 c4 c5 c6 c7 hp0
      generalize checkW x rr = K at *
      go_region_held3 (fun W => W.cell? ⟨w.heap.size, 0, none⟩ = some (.string x.name) ∧ W.cell? ⟨w.heap.size, 1, none⟩ = some (.int .i64 x.kind) ∧ W.cell? ⟨w.heap.size, 2, none⟩ = some (.int .i64 x.metric) ∧ W.cell? ⟨w.heap.size, 3, none⟩ = some (.int .i64 x.scale) ∧ W.cell? ⟨w.heap.size, 4, none⟩ = some (.int .i64 x.cap) ∧ W.cell? ⟨w.heap.size, 5, none⟩ = some (.int .i64 x.fleet) ∧ W.cell? ⟨w.heap.size, 6, none⟩ = some (.slice an L cn) ∧ W.cell? ⟨w.heap.size, 7, none⟩ = some (.slice am M cm) ∧ W.cell? ⟨w.heap.size + 1, 0, none⟩ = some (.slice ap N cp) ∧ LwS w x (.slice an L cn) (.slice am M cm) (.slice ap N cp) W)
        ((go_split_ands; (first | exact lwS_S (by assumption) | exact lwS_S HS4.out.drew | exact lwS_S (LwS.drew (by assumption)) | exact lwS_S (LwS.next (by assumption) (by assumption)))))
        (first
          | (go_at_call 14; (with_reducible refine (HC.out _ (HX.out.next (by go_split_ands; first | exact (show LwS w x _ _ _ _ by assumption).below | exact (LwS.drew (by assumption)).below)) (HV.out.next (by go_split_ands; first | exact (show LwS w x _ _ _ _ by assumption).below | exact (LwS.drew (by assumption)).below))).mono ?_); rintro e w' ⟨v1, rfl, h1, hb⟩)
          | (go_at_call 16; (with_reducible refine (HTH.out _ _ h3).mono ?_); rintro e w' ⟨v8, rfl, h8, hb⟩; (try have h7 := h7.next hb))
          | (go_at_call 16; (with_reducible refine (HTH.out _ _ h1).mono ?_); rintro e w' ⟨v7, rfl, h7, hb⟩)
          | (go_at_call 27; (with_reducible refine (HNO.out _ (HX.out.next (by go_split_ands; first | exact (show LwS w x _ _ _ _ by assumption).below | exact (LwS.drew (by assumption)).below))).mono ?_); rintro e w' ⟨un, um, rfl, hn, hb⟩; (try have h7 := h7.next hb))
          | (go_at_call 14; (with_reducible refine (HC2.out _ _ _ hn (HV.out.next (by go_split_ands; first | exact (show LwS w x _ _ _ _ by assumption).below | exact (LwS.drew (by assumption)).below))).mono ?_); rintro e w' ⟨v3, rfl, h3, hb⟩; (try have h7 := h7.next hb))
          | (go_at_call 15; (with_reducible refine (HSM.out _ _ _ h7 h8).mono ?_); rintro e w' ⟨rfl, hb⟩))
      rename_i hh
      have T := (show _ ∧ _ ∧ _ ∧ _ ∧ _ ∧ _ ∧ _ ∧ _ ∧ _ ∧ LwS w x (.slice an L cn) (.slice am M cm) (.slice ap N cp) _ by assumption).2.2.2.2.2.2.2.2.2
      have BT := T.below
      clear hh T HS4
      go_wp2
      go_ret
      exact ⟨rfl, BT⟩
end Go.Proofs
