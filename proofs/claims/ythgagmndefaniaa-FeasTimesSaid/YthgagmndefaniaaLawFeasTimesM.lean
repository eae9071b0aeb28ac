/- The law FeasTimes, as a contract. Conditions: what package feas answers. -/
import Derived.Test.YthgagmndefaniaaG10
import Derived.Test.YthgagmndefaniaaG16
import Derived.Deep.DrawnRows
import Derived.Deep.RegionHeld3
import Derived.Deep.Cut
namespace Go.Proofs
open Go.RowKit Go.Shelf Go.Canon Go.Feas Go.Plans
attribute [local go_sem] Oper.semAt_some
attribute [local go_sem ↓] Go.wp_at_zero Go.wp_at_succ
/-- An instance in its box. -/
structure LiS (w : World) (x : Ins) (vn vm : Value) (W : World) : Prop where
  box : InsBox W w.heap.size x vn vm 25
  below : Below w.heap.size w W
theorem LiS.next {w W W' : World} {x : Ins} {vn vm : Value} (h : LiS w x vn vm W) (hb : Below W.heap.size W W') : LiS w x vn vm W' := ⟨h.box.next hb, h.below.trans (hb.mono h.below.size)⟩
theorem LiS.drew {w W : World} {x : Ins} {vn vm : Value} (h : LiS w x vn vm W) : LiS w x vn vm W.drew := ⟨h.box, h.below.drew⟩
theorem liS_start (w : World) (x : Ins) (vn vm : Value) : LiS w x vn vm (w.alloc (.cells #[.string x.name, .int .i64 x.kind, .int .i64 x.metric, .int .i64 x.scale, .int .i64 x.cap, .int .i64 x.fleet, vn, vm] 25)) := ⟨InsBox.new w x vn vm 25, fbelow_box w _⟩
theorem liS_S {w W : World} {x : Ins} {vn vm : Value} (h : LiS w x vn vm W) : W.cell? ⟨w.heap.size, 0, none⟩ = some (.string x.name) ∧ W.cell? ⟨w.heap.size, 1, none⟩ = some (.int .i64 x.kind) ∧ W.cell? ⟨w.heap.size, 2, none⟩ = some (.int .i64 x.metric) ∧ W.cell? ⟨w.heap.size, 3, none⟩ = some (.int .i64 x.scale) ∧ W.cell? ⟨w.heap.size, 4, none⟩ = some (.int .i64 x.cap) ∧ W.cell? ⟨w.heap.size, 5, none⟩ = some (.int .i64 x.fleet) ∧ W.cell? ⟨w.heap.size, 6, none⟩ = some vn ∧ W.cell? ⟨w.heap.size, 7, none⟩ = some vm ∧ LiS w x vn vm W := by
  obtain ⟨c0, c1, c2, c3, c4, c5, c6, c7⟩ := h.box.cells
  exact ⟨c0, c1, c2, c3, c4, c5, c6, c7, h⟩
/-- Beside the box: two lists of numbers. -/
structure TwoS (w : World) (x : Ins) (vn vm u v : Value) (K : List Int) (W : World) : Prop where
  b : LiS w x vn vm W
  u : HasInts W u K
  v : HasInts W v K
theorem TwoS.next {w W W' : World} {x : Ins} {vn vm u v : Value} {K : List Int} (h : TwoS w x vn vm u v K W) (hb : Below W.heap.size W W') : TwoS w x vn vm u v K W' := ⟨h.b.next hb, h.u.next hb, h.v.next hb⟩
theorem TwoS.drew {w W : World} {x : Ins} {vn vm u v : Value} {K : List Int} (h : TwoS w x vn vm u v K W) : TwoS w x vn vm u v K W.drew := ⟨h.b.drew, h.u.next ((Below.refl _ _).drew), h.v.next ((Below.refl _ _).drew)⟩
theorem twoS_S {w W : World} {x : Ins} {vn vm u v : Value} {K : List Int} (h : TwoS w x vn vm u v K W) : W.cell? ⟨w.heap.size, 0, none⟩ = some (.string x.name) ∧ W.cell? ⟨w.heap.size, 1, none⟩ = some (.int .i64 x.kind) ∧ W.cell? ⟨w.heap.size, 2, none⟩ = some (.int .i64 x.metric) ∧ W.cell? ⟨w.heap.size, 3, none⟩ = some (.int .i64 x.scale) ∧ W.cell? ⟨w.heap.size, 4, none⟩ = some (.int .i64 x.cap) ∧ W.cell? ⟨w.heap.size, 5, none⟩ = some (.int .i64 x.fleet) ∧ W.cell? ⟨w.heap.size, 6, none⟩ = some vn ∧ W.cell? ⟨w.heap.size, 7, none⟩ = some vm ∧ TwoS w x vn vm u v K W := by
  obtain ⟨c0, c1, c2, c3, c4, c5, c6, c7⟩ := h.b.box.cells
  exact ⟨c0, c1, c2, c3, c4, c5, c6, c7, h⟩
set_option maxRecDepth 100000 in
set_option maxHeartbeats 4000000 in
theorem Try.FeasTimes_calls (H : Try.FeasC) (x : Ins) (vn vm v : Value) (r : List Int) (w : World) (hx : HasIns w vn vm x) (hv : HasInts w v r) :
    Calls Try.prog 4 #[insV x vn vm, v] w fun e w' => e = .returned (.bool true) ∧ Below w.heap.size w w' := by
  have HX := Lib.hid hx
  have HV := Lib.hid hv
  have HSH := Lib.hid fun W => Try.fshown_calls H W
  cases hq : wellQ x with
  | false =>
    have HW : Hid (∀ W, HasIns W vn vm x → Calls Try.prog 11 #[insV x vn vm] W fun e w' => e = .returned (.bool false) ∧ Below W.heap.size W w') := fun W h => hq ▸ Try.lwell_calls x vn vm W h
    obtain ⟨an, cn, rfl, _⟩ := hx.nodes.dat
    obtain ⟨am, cm, rfl, _⟩ := hx.matrix.dat
    obtain ⟨ar, cr, rfl⟩ := hv.len
    unfold insV at HW ⊢
    clear hx hv hq H
    generalize x.nodes.length = L at *
    generalize x.matrix.length = M at *
    generalize r.length = n at *
    have HS0 := Lib.hid (liS_start w x (.slice an L cn) (.slice am M cm))
    go_enter Try.func4, Try.ntmps4
    go_wp2_with (first | (go_at_call 11; (with_reducible refine (HW.out _ (HX.out.next HS0.out.below)).mono ?_); rintro e w1 ⟨rfl, hb1⟩; have HS1 := Lib.hid (HS0.out.next hb1)) | (go_at_call 13; (with_reducible refine (HSH.out _).mono ?_); rintro e w2 ⟨rfl, hb2⟩))
    go_ret
    exact ⟨rfl, HS1.out.below.trans (hb2.mono HS1.out.below.size)⟩
  | true =>
    have HW : Hid (∀ W, HasIns W vn vm x → Calls Try.prog 11 #[insV x vn vm] W fun e w' => e = .returned (.bool true) ∧ Below W.heap.size W w') := fun W h => hq ▸ Try.lwell_calls x vn vm W h
    have HQ := Lib.hid (wellQ_iff.1 hq)
    by_cases hlo : 300 < r.length
    · obtain ⟨an, cn, rfl, _⟩ := hx.nodes.dat
      obtain ⟨am, cm, rfl, _⟩ := hx.matrix.dat
      obtain ⟨ar, cr, rfl⟩ := hv.len
      unfold insV at HW ⊢
      clear hx hv hq H HQ
      generalize x.nodes.length = L at *
      generalize x.matrix.length = M at *
      generalize r.length = n at *
      have hli : (300 : Int) < (n : Int) := by omega
      have HS0 := Lib.hid (liS_start w x (.slice an L cn) (.slice am M cm))
      go_enter Try.func4, Try.ntmps4
      go_wp2_with (first | (go_at_call 11; (with_reducible refine (HW.out _ (HX.out.next HS0.out.below)).mono ?_); rintro e w1 ⟨rfl, hb1⟩; have HS1 := Lib.hid (HS0.out.next hb1)) | (go_at_call 13; (with_reducible refine (HSH.out _).mono ?_); rintro e w2 ⟨rfl, hb2⟩))
      go_ret
      exact ⟨rfl, HS1.out.below.trans (hb2.mono HS1.out.below.size)⟩
    · have HFI := Lib.hid (fine_of HQ.out.well)
      have htl : (timesL x r).length ≤ 300 := by
        unfold timesL; split
        · rw [timesF_length]; omega
        · simp
      have hll : (loads x r).length ≤ 300 := by
        unfold loads; split
        · rw [loadsF_length]; omega
        · simp
      have HT : Hid (∀ W, HasIns W vn vm x → HasInts W v r → Calls Try.prog 20 #[insV x vn vm, v] W fun e w' => ∃ v', e = .returned (.tuple #[v', .bool (decide (lateI x r < 0))]) ∧ HasInts w' v' (timesL x r) ∧ Below W.heap.size W w') := fun W h1 h2 => H.times x vn vm v r W h1 HFI.out (by omega) h2
      have HLD : Hid (∀ W, HasIns W vn vm x → HasInts W v r → Calls Try.prog 23 #[insV x vn vm, v] W fun e w' => ∃ v', e = .returned v' ∧ HasInts w' v' (loads x r) ∧ Below W.heap.size W w') := fun W h1 h2 => H.loads x vn vm v r W h1 HFI.out (by omega) h2
      have HRT : Hid (∀ u W, HasIns W u vm x → HasInts W v r → Calls Try.prog 21 #[insV x u vm, v] W fun e w' => ∃ v', e = .returned (.tuple #[v', .bool (decide (lateI x r < 0))]) ∧ HasInts w' v' (timesL x r) ∧ Below W.heap.size W w') := fun u W h1 h2 => Try.RTimes_any x u vm v r W h1 HFI.out (by omega) h2
      have HRL : Hid (∀ u W, HasIns W u vm x → HasInts W v r → Calls Try.prog 24 #[insV x u vm, v] W fun e w' => ∃ v', e = .returned v' ∧ HasInts w' v' (loads x r) ∧ Below W.heap.size W w') := fun u W h1 h2 => (Try.RLoads_own x u vm v r W h1 HFI.out (by omega) h2).mono fun e w' ⟨v', k1, k2, k3⟩ => ⟨v', k1, hasInts_of_owns k2, k3⟩
      have HIT : Hid (∀ W, HasIns W vn vm x → Calls Try.prog 18 #[insV x vn vm] W fun e w' => ∃ v', e = .returned (insV x v' vm) ∧ HasIns w' v' vm x ∧ Below W.heap.size W w') := fun W h => Try.its_any x vn vm W h (by have := HQ.out.nodes; omega)
      have HI1 : Hid (∀ u1 u2 W, HasInts W u1 (timesL x r) → HasInts W u2 (timesL x r) → Calls Try.prog 22 #[u1, u2] W fun e w' => e = .returned (.bool true) ∧ Below W.heap.size W w') := fun u1 u2 W h1 h2 => (Try.RInts_calls u1 u2 _ _ W (by omega) h1 h2).mono fun e w' h => ⟨h.1.trans (by rw [decide_eq_true rfl]), h.2⟩
      have HI2 : Hid (∀ u1 u2 W, HasInts W u1 (loads x r) → HasInts W u2 (loads x r) → Calls Try.prog 22 #[u1, u2] W fun e w' => e = .returned (.bool true) ∧ Below W.heap.size W w') := fun u1 u2 W h1 h2 => (Try.RInts_calls u1 u2 _ _ W (by omega) h1 h2).mono fun e w' h => ⟨h.1.trans (by rw [decide_eq_true rfl]), h.2⟩
      obtain ⟨an, cn, rfl, _⟩ := hx.nodes.dat
      obtain ⟨am, cm, rfl, _⟩ := hx.matrix.dat
      obtain ⟨ar, cr, rfl⟩ := hv.len
      unfold insV at HW HT HLD HRT HRL HIT ⊢
      clear hx hv hq H HQ HFI htl hll
      generalize x.nodes.length = L at *
      generalize x.matrix.length = M at *
      generalize r.length = n at *
      generalize decide (lateI x r < 0) = lb at *
      generalize timesL x r = K at *
      generalize loads x r = Q at *
      have hli : ¬ (300 : Int) < (n : Int) := by omega
      have HS0 := Lib.hid (liS_start w x (.slice an L cn) (.slice am M cm))
      go_enter Try.func4, Try.ntmps4
      go_upto_region 3 with (first | (go_at_call 11; (with_reducible refine (HW.out _ (HX.out.next HS0.out.below)).mono ?_); rintro e w1 ⟨rfl, hb1⟩; have HS1 := Lib.hid (HS0.out.next hb1); obtain ⟨c0, c1, c2, c3, c4, c5, c6, c7, -⟩ := liS_S HS1.out) | (go_at_call 13; (with_reducible refine (HSH.out _).mono ?_); rintro e w2 ⟨rfl, hb2⟩; have HS4 := Lib.hid (HS1.out.next hb2); clear c0 c1 c2 c3 c4 c5 c6 c7; obtain ⟨c0, c1, c2, c3, c4, c5, c6, c7, -⟩ := liS_S HS4.out))
      clear HS0 HS1 HW HSH hb1 hb2
      go_upto_region 4 with (go_at_call 20; (with_reducible refine (HT.out _ (HX.out.next HS4.out.below) (HV.out.next HS4.out.below)).mono ?_); rintro e w4 ⟨v4, rfl, h4, hb4⟩; have HS5 := Lib.hid (HS4.out.next hb4); have H4 := Lib.hid h4; clear h4 hb4 c0 c1 c2 c3 c4 c5 c6 c7; obtain ⟨c0, c1, c2, c3, c4, c5, c6, c7, -⟩ := liS_S HS5.out)
      clear HS4 HT
      go_wp2_with (first
        | (go_at_call 18; (with_reducible refine (HIT.out _ (HX.out.next HS5.out.below)).mono ?_); rintro e w5 ⟨v5, rfl, h5, hb5⟩; have HS6 := Lib.hid (HS5.out.next hb5); have H5 := Lib.hid (H4.out.next hb5); have H6 := Lib.hid h5; clear h5 hb5 c0 c1 c2 c3 c4 c5 c6 c7)
        | (go_at_call 21; (with_reducible refine (HRT.out _ _ H6.out (HV.out.next HS6.out.below)).mono ?_); rintro e w6 ⟨v6, rfl, h6, hb6⟩; have HP : Hid (TwoS w x (.slice an L cn) (.slice am M cm) v4 v6 K w6) := ⟨HS6.out.next hb6, H5.out.next hb6, h6⟩; clear h6 hb6))
      clear HS5 HS6 H4 H5 H6 HRT
      have hbb : (lb == lb) = true := by cases lb <;> rfl
      go_region_held3 (fun W => W.cell? ⟨w.heap.size, 0, none⟩ = some (.string x.name) ∧ W.cell? ⟨w.heap.size, 1, none⟩ = some (.int .i64 x.kind) ∧ W.cell? ⟨w.heap.size, 2, none⟩ = some (.int .i64 x.metric) ∧ W.cell? ⟨w.heap.size, 3, none⟩ = some (.int .i64 x.scale) ∧ W.cell? ⟨w.heap.size, 4, none⟩ = some (.int .i64 x.cap) ∧ W.cell? ⟨w.heap.size, 5, none⟩ = some (.int .i64 x.fleet) ∧ W.cell? ⟨w.heap.size, 6, none⟩ = some (.slice an L cn) ∧ W.cell? ⟨w.heap.size, 7, none⟩ = some (.slice am M cm) ∧ TwoS w x (.slice an L cn) (.slice am M cm) v4 v6 K W)
        ((go_split_ands; (first | exact twoS_S (by assumption) | exact twoS_S HP.out.drew | exact twoS_S (TwoS.drew (by assumption)) | exact twoS_S (TwoS.next (by assumption) (by assumption)))))
        (first
          | (go_at_call 23; (with_reducible refine (HLD.out _ (HX.out.next (by go_split_ands; first | exact (show TwoS w x _ _ _ _ _ _ by assumption).b.below | exact (TwoS.drew (by assumption)).b.below)) (HV.out.next (by go_split_ands; first | exact (show TwoS w x _ _ _ _ _ _ by assumption).b.below | exact (TwoS.drew (by assumption)).b.below))).mono ?_); rintro e w' ⟨v7, rfl, h7, hb⟩)
          | (go_at_call 18; (with_reducible refine (HIT.out _ (HX.out.next (by go_split_ands; first | exact (show TwoS w x _ _ _ _ _ _ by assumption).b.below | exact (TwoS.drew (by assumption)).b.below))).mono ?_); rintro e w' ⟨v8, rfl, h8, hb⟩; (try have h7 := h7.next hb))
          | (go_at_call 24; (with_reducible refine (HRL.out _ _ h8 (HV.out.next (by go_split_ands; first | exact (show TwoS w x _ _ _ _ _ _ by assumption).b.below | exact (TwoS.drew (by assumption)).b.below))).mono ?_); rintro e w' ⟨v9, rfl, h9, hb⟩; (try have h7 := h7.next hb))
          | (go_at_call 22; (with_reducible refine (HI2.out _ _ _ h7 h9).mono ?_); rintro e w' ⟨rfl, hb⟩)
          | (go_at_call 22; (with_reducible refine (HI1.out _ _ _ (by go_split_ands; exact TwoS.u (by assumption)) (by go_split_ands; exact TwoS.v (by assumption))).mono ?_); rintro e w' ⟨rfl, hb⟩))
      rename_i hh
      have T := (show _ ∧ _ ∧ _ ∧ _ ∧ _ ∧ _ ∧ _ ∧ _ ∧ TwoS w x (.slice an L cn) (.slice am M cm) v4 v6 K _ by assumption).2.2.2.2.2.2.2.2
      have BT := T.b.below
      clear hh T HP
      go_wp2
      go_ret
      exact ⟨rfl, BT⟩
end Go.Proofs
