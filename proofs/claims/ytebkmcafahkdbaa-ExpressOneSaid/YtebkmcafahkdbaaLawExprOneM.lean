/- The law ExpressOne, as a contract. Conditions: what package express answers. -/
import Derived.Test.YtebkmcafahkdbaaLawExprTellsM
import Derived.Test.YtebkmcafahkdbaaG04
import Derived.Test.YtebkmcafahkdbaaG11
import Derived.BigQuiet
namespace Go.Expr
open Go.Canon
def nameE (s : ByteArray) : Bool := Go.Wds.nameL s.data.toList
theorem can_kind1 {x : Ins} (h : canB 1 x = true) : x.kind ≤ 2 := by
  have := canB_iff.1 h 2 (by decide) (by decide)
  unfold lackQ at this
  simp at this
  omega
theorem can_kind2 {x : Ins} (h : canB 2 x = true) : x.kind = 3 := by
  have := canB_iff.1 h 2 (by decide) (by decide)
  unfold lackQ at this
  simpa using this
theorem can_kind3 {x : Ins} (h : canB 3 x = true) : x.kind = 4 := by
  have := canB_iff.1 h 2 (by decide) (by decide)
  unfold lackQ at this
  simpa using this
theorem can_any {f : Int} {x : Ins} (h : 3 < f) (h5 : f ≤ 5) : canB f x = true := by
  unfold canB; rw [lacks_none h h5]; rfl
/-- The one format of the three that can express it, if there is one. -/
structure OneF (x : Ins) (t : Int) : Prop where
  pos : 1 ≤ t
  can : ∀ j : Int, 1 ≤ j → j ≤ 3 → canB j x = decide (j = t)
  k1 : t = 1 → x.kind ≤ 2
  k2 : t = 2 → x.kind = 3
  k3 : t = 3 → x.kind = 4
theorem oneF (x : Ins) : ∃ t, OneF x t := by
  have e : ∀ {b : Bool}, ¬ b = true → b = false := fun h => by simpa using h
  have three : ∀ {P : Int → Prop}, P 1 → P 2 → P 3 → ∀ j : Int, 1 ≤ j → j ≤ 3 → P j := fun h1 h2 h3 j a b => by
    rcases (by omega : j = 1 ∨ j = 2 ∨ j = 3) with rfl | rfl | rfl
    · exact h1
    · exact h2
    · exact h3
  by_cases h1 : canB 1 x = true
  · have k := can_kind1 h1
    refine ⟨1, by decide, three h1 (e fun h => ?_) (e fun h => ?_), fun _ => k, nofun, nofun⟩
    · have := can_kind2 h; omega
    · have := can_kind3 h; omega
  · by_cases h2 : canB 2 x = true
    · have k := can_kind2 h2
      refine ⟨2, by decide, three (e h1) h2 (e fun h => ?_), nofun, fun _ => k, nofun⟩
      have := can_kind3 h; omega
    · by_cases h3 : canB 3 x = true
      · exact ⟨3, by decide, three (e h1) (e h2) h3, nofun, nofun, fun _ => can_kind3 h3⟩
      · exact ⟨9, by decide, three (e h1) (e h2) (e h3), nofun, nofun, nofun⟩
def cntE (t k : Int) : Int := if t < k then 1 else 0
end Go.Expr
namespace Go.Proofs
open Go.RowKit Go.Shelf Go.Canon Go.Expr
attribute [local go_sem] Oper.semAt_some
theorem Try.enameB : ∀ (s : ByteArray) (W : World), s.size ≤ 100 → Calls Try.prog 47 #[.string s] W fun e w' => e = .returned (.bool (nameE s)) ∧ Below W.heap.size W w' := fun s W h =>
  (Try.rName_calls s W (Nat.le_trans h (by decide))).mono fun _ _ ⟨h1, h2⟩ => ⟨h1, h2 ▸ Below.refl _ _⟩
theorem Try.emetricB : ∀ (m : Int) (W : World), Calls Try.prog 48 #[.int .i64 m] W fun e w' => e = .returned (.bool (metricB m)) ∧ Below W.heap.size W w' := fun m W =>
  (Try.RKnown_calls m W).mono fun _ _ ⟨h1, h2⟩ => ⟨h1, h2 ▸ Below.refl _ _⟩
set_option maxRecDepth 100000 in
set_option maxHeartbeats 4000000 in
theorem Try.ExpressOne_calls (H : Try.ExprC) (x : Ins) (vn vm : Value) (w : World) (hx : HasIns w vn vm x) :
    Calls Try.prog 4 #[insV x vn vm] w fun e w' => e = .returned (.bool true) ∧ Below w.heap.size w w' := by
  have HX := Lib.hid hx
  have HSH := Lib.hid fun W => Try.shown12_calls H W
  cases hq : longE x with
  | true =>
    have HW : Hid (∀ W, HasIns W vn vm x → Calls Try.prog 7 #[insV x vn vm] W fun e w' => e = .returned (.bool true) ∧ Below W.heap.size W w') := fun W h => hq ▸ Try.long12_calls x vn vm W h
    obtain ⟨an, cn, rfl, _⟩ := hx.nodes.dat
    obtain ⟨am, cm, rfl, _⟩ := hx.matrix.dat
    unfold insV at HW ⊢
    clear hx hq H
    generalize x.nodes.length = L at *
    generalize x.matrix.length = M at *
    have HS0 := Lib.hid (ExS.new w x (.slice an L cn) (.slice am M cm))
    obtain ⟨c0, c1, c2, c3, c4, c5, c6, c7⟩ := HS0.out.box.cells
    go_enter Try.func4, Try.ntmps4
    go_wp2_with (first | (go_at_call 7; (with_reducible refine (HW.out _ (HX.out.next HS0.out.below)).mono ?_); rintro e w1 ⟨rfl, hb1⟩; have HS1 := Lib.hid (HS0.out.next hb1)) | (go_at_call 8; (with_reducible refine (HSH.out _).mono ?_); rintro e w2 ⟨rfl, hb2⟩))
    go_ret
    exact ⟨rfl, HS1.out.below.trans (hb2.mono HS1.out.below.size)⟩
  | false =>
    have HW : Hid (∀ W, HasIns W vn vm x → Calls Try.prog 7 #[insV x vn vm] W fun e w' => e = .returned (.bool false) ∧ Below W.heap.size W w') := fun W h => hq ▸ Try.long12_calls x vn vm W h
    have hn := (longE_no hq).1
    have hs := (longE_no hq).2.2
    have HIT := Lib.hid fun W h => Try.its12_any x vn vm W h (by omega)
    cases hw : wellB nameE x with
    | false =>
      have HWL : Hid (∀ v' W, HasIns W v' vm x → Calls Try.prog 14 #[insV x v' vm] W fun e w' => e = .returned (.bool false) ∧ Below W.heap.size W w') := fun v' W h => hw ▸ Try.rwell_calls nameE Try.enameB Try.emetricB x v' vm W h hs
      obtain ⟨an, cn, rfl, _⟩ := hx.nodes.dat
      obtain ⟨am, cm, rfl, _⟩ := hx.matrix.dat
      unfold insV at HW HIT HWL ⊢
      clear hx hq H hw
      generalize x.nodes.length = L at *
      generalize x.matrix.length = M at *
      have HS0 := Lib.hid (ExS.new w x (.slice an L cn) (.slice am M cm))
      obtain ⟨c0, c1, c2, c3, c4, c5, c6, c7⟩ := HS0.out.box.cells
      go_enter Try.func4, Try.ntmps4
      go_wp2_with (first | (go_at_call 7; (with_reducible refine (HW.out _ (HX.out.next HS0.out.below)).mono ?_); rintro e w1 ⟨rfl, hb1⟩; have HS1 := Lib.hid (HS0.out.next hb1); clear hb1 c0 c1 c2 c3 c4 c5 c6 c7; obtain ⟨c0, c1, c2, c3, c4, c5, c6, c7⟩ := HS1.out.box.cells) | (go_at_call 12; (with_reducible refine (HIT.out _ (HX.out.next HS1.out.below)).mono ?_); rintro e w2 ⟨v2, rfl, hv2, hb2⟩; have HS2 := Lib.hid (HS1.out.next hb2); have HV2 := Lib.hid hv2; clear hv2 hb2) | (go_at_call 14; (with_reducible refine (HWL.out _ _ HV2.out).mono ?_); rintro e w3 ⟨rfl, hb3⟩; have HS3 := Lib.hid (HS2.out.next hb3); clear hb3) | (go_at_call 8; (with_reducible refine (HSH.out _).mono ?_); rintro e w4 ⟨rfl, hb4⟩; have HS4 := Lib.hid (HS3.out.next hb4); clear hb4))
      go_ret
      exact ⟨rfl, HS4.out.below⟩
    | true =>
      obtain ⟨t, ht⟩ := oneF x
      have HT := Lib.hid ht
      clear ht
      have HWL : Hid (∀ v' W, HasIns W v' vm x → Calls Try.prog 14 #[insV x v' vm] W fun e w' => e = .returned (.bool true) ∧ Below W.heap.size W w') := fun v' W h => hw ▸ Try.rwell_calls nameE Try.enameB Try.emetricB x v' vm W h hs
      have HCN := Lib.hid fun j W h => H.can j x vn vm W h (longE_no hq).1
      have HC4 : Hid (∀ j, 3 < j → j ≤ 5 → canB j x = true) := fun j h h5 => can_any h h5
      obtain ⟨an, cn, rfl, _⟩ := hx.nodes.dat
      obtain ⟨am, cm, rfl, _⟩ := hx.matrix.dat
      unfold insV at HW HIT HWL HCN ⊢
      clear hx hq H hw
      generalize x.nodes.length = L at *
      generalize x.matrix.length = M at *
      have HS0 := Lib.hid (ExS.new w x (.slice an L cn) (.slice am M cm))
      obtain ⟨c0, c1, c2, c3, c4, c5, c6, c7⟩ := HS0.out.box.cells
      go_enter Try.func4, Try.ntmps4
      go_wp2_with (first | (go_at_call 7; (with_reducible refine (HW.out _ (HX.out.next HS0.out.below)).mono ?_); rintro e w1 ⟨rfl, hb1⟩; have HS1 := Lib.hid (HS0.out.next hb1); clear hb1 c0 c1 c2 c3 c4 c5 c6 c7; obtain ⟨c0, c1, c2, c3, c4, c5, c6, c7⟩ := HS1.out.box.cells) | (go_at_call 12; (with_reducible refine (HIT.out _ (HX.out.next HS1.out.below)).mono ?_); rintro e w2 ⟨v2, rfl, hv2, hb2⟩; have HS2 := Lib.hid (HS1.out.next hb2); have HV2 := Lib.hid hv2; clear hv2 hb2) | (go_at_call 14; (with_reducible refine (HWL.out _ _ HV2.out).mono ?_); rintro e w3 ⟨rfl, hb3⟩; have HS3 := Lib.hid (HS2.out.next hb3); clear hb3) | (go_at_call 8; (with_reducible refine (HSH.out _).mono ?_); rintro e w4 ⟨rfl, hb4⟩; have HS4 := Lib.hid (HS3.out.next hb4); clear hb4))
      clear c0 c1 c2 c3 c4 c5 c6 c7
      go_loopw [3, 4] (fun n f wr => ∃ k : Int, 1 ≤ k ∧ k ≤ 4 ∧ f = .int .i64 k ∧ n = .int .i64 (cntE t k) ∧ ExS w x (.slice an L cn) (.slice am M cm) wr) (fun _ f _ => (4 - intOf f).toNat)
      case atStart => exact ⟨1, by decide, by decide, rfl, by have := HT.out.pos; unfold cntE; rw [if_neg (by omega)], HS4.out⟩
      case round =>
        obtain ⟨k, hk1, hk4, rfl, rfl, hS⟩ := hrel
        have HS5 := Lib.hid hS
        clear hS HW HSH HIT HWL HS0 HS1 HS2 HS3 HS4 HV2
        obtain ⟨c0, c1, c2, c3, c4, c5, c6, c7⟩ := HS5.out.box.cells
        have hp := HT.out.pos
        rcases (by omega : k = 1 ∨ k = 2 ∨ k = 3 ∨ k = 4) with rfl | rfl | rfl | rfl
        · by_cases h : t = 1
          · subst h
            have HCK := Lib.hid fun W h => HCN.out 1 W h
            rw [show canB 1 x = true from (HT.out.can 1 (by decide) (by decide)).trans (decide_eq_true rfl)] at HCK
            rw [show cntE 1 1 = 0 by decide]
            have q1 : decide (2 < x.kind) = false := decide_eq_false (by have := HT.out.k1 rfl; omega)
            have h1 : Hid (cntE 1 2 = 1) := by unfold Hid; decide
            clear HCN HC4 hp hk1 hk4
            go_wp2_with (go_at_call 13; (with_reducible refine (HCK.out _ (HX.out.next HS5.out.below)).mono ?_); rintro e w6 ⟨rfl, hb6⟩; have HS6 := Lib.hid (HS5.out.next hb6); clear hb6 c0 c1 c2 c3 c4 c5 c6 c7; obtain ⟨c0, c1, c2, c3, c4, c5, c6, c7⟩ := HS6.out.box.cells)
            go_roundw
            case rel => exact ⟨2, by decide, by decide, rfl, by rw [h1.out], HS6.out⟩
            case measure => simp [intOf]
          · by_cases h2 : t < 1
            · have HCK := Lib.hid fun W h => HCN.out 1 W h
              rw [show canB 1 x = false from (HT.out.can 1 (by decide) (by decide)).trans (decide_eq_false (fun e => h e.symm))] at HCK
              rw [show cntE t 1 = 1 by unfold cntE; rw [if_pos h2]]
              have h1 : Hid (cntE t 2 = 1) := by unfold Hid cntE; rw [if_pos (by omega)]
              clear HCN HC4 hp hk1 hk4 h h2
              go_wp2_with (go_at_call 13; (with_reducible refine (HCK.out _ (HX.out.next HS5.out.below)).mono ?_); rintro e w6 ⟨rfl, hb6⟩; have HS6 := Lib.hid (HS5.out.next hb6); clear hb6 c0 c1 c2 c3 c4 c5 c6 c7; obtain ⟨c0, c1, c2, c3, c4, c5, c6, c7⟩ := HS6.out.box.cells)
              go_roundw
              case rel => exact ⟨2, by decide, by decide, rfl, by rw [h1.out], HS6.out⟩
              case measure => simp [intOf]
            · have HCK := Lib.hid fun W h => HCN.out 1 W h
              rw [show canB 1 x = false from (HT.out.can 1 (by decide) (by decide)).trans (decide_eq_false (fun e => h e.symm))] at HCK
              rw [show cntE t 1 = 0 by unfold cntE; rw [if_neg h2]]
              have h1 : Hid (cntE t 2 = 0) := by unfold Hid cntE; rw [if_neg (by omega)]
              clear HCN HC4 hp hk1 hk4 h h2
              go_wp2_with (go_at_call 13; (with_reducible refine (HCK.out _ (HX.out.next HS5.out.below)).mono ?_); rintro e w6 ⟨rfl, hb6⟩; have HS6 := Lib.hid (HS5.out.next hb6); clear hb6 c0 c1 c2 c3 c4 c5 c6 c7; obtain ⟨c0, c1, c2, c3, c4, c5, c6, c7⟩ := HS6.out.box.cells)
              go_roundw
              case rel => exact ⟨2, by decide, by decide, rfl, by rw [h1.out], HS6.out⟩
              case measure => simp [intOf]
        · by_cases h : t = 2
          · subst h
            have HCK := Lib.hid fun W h => HCN.out 2 W h
            rw [show canB 2 x = true from (HT.out.can 2 (by decide) (by decide)).trans (decide_eq_true rfl)] at HCK
            rw [show cntE 2 2 = 0 by decide]
            have q1 : (x.kind != 3) = false := by rw [HT.out.k2 rfl]; rfl
            have h1 : Hid (cntE 2 3 = 1) := by unfold Hid; decide
            clear HCN HC4 hp hk1 hk4
            go_wp2_with (go_at_call 13; (with_reducible refine (HCK.out _ (HX.out.next HS5.out.below)).mono ?_); rintro e w6 ⟨rfl, hb6⟩; have HS6 := Lib.hid (HS5.out.next hb6); clear hb6 c0 c1 c2 c3 c4 c5 c6 c7; obtain ⟨c0, c1, c2, c3, c4, c5, c6, c7⟩ := HS6.out.box.cells)
            go_roundw
            case rel => exact ⟨3, by decide, by decide, rfl, by rw [h1.out], HS6.out⟩
            case measure => simp [intOf]
          · by_cases h2 : t < 2
            · have HCK := Lib.hid fun W h => HCN.out 2 W h
              rw [show canB 2 x = false from (HT.out.can 2 (by decide) (by decide)).trans (decide_eq_false (fun e => h e.symm))] at HCK
              rw [show cntE t 2 = 1 by unfold cntE; rw [if_pos h2]]
              have h1 : Hid (cntE t 3 = 1) := by unfold Hid cntE; rw [if_pos (by omega)]
              clear HCN HC4 hp hk1 hk4 h h2
              go_wp2_with (go_at_call 13; (with_reducible refine (HCK.out _ (HX.out.next HS5.out.below)).mono ?_); rintro e w6 ⟨rfl, hb6⟩; have HS6 := Lib.hid (HS5.out.next hb6); clear hb6 c0 c1 c2 c3 c4 c5 c6 c7; obtain ⟨c0, c1, c2, c3, c4, c5, c6, c7⟩ := HS6.out.box.cells)
              go_roundw
              case rel => exact ⟨3, by decide, by decide, rfl, by rw [h1.out], HS6.out⟩
              case measure => simp [intOf]
            · have HCK := Lib.hid fun W h => HCN.out 2 W h
              rw [show canB 2 x = false from (HT.out.can 2 (by decide) (by decide)).trans (decide_eq_false (fun e => h e.symm))] at HCK
              rw [show cntE t 2 = 0 by unfold cntE; rw [if_neg h2]]
              have h1 : Hid (cntE t 3 = 0) := by unfold Hid cntE; rw [if_neg (by omega)]
              clear HCN HC4 hp hk1 hk4 h h2
              go_wp2_with (go_at_call 13; (with_reducible refine (HCK.out _ (HX.out.next HS5.out.below)).mono ?_); rintro e w6 ⟨rfl, hb6⟩; have HS6 := Lib.hid (HS5.out.next hb6); clear hb6 c0 c1 c2 c3 c4 c5 c6 c7; obtain ⟨c0, c1, c2, c3, c4, c5, c6, c7⟩ := HS6.out.box.cells)
              go_roundw
              case rel => exact ⟨3, by decide, by decide, rfl, by rw [h1.out], HS6.out⟩
              case measure => simp [intOf]
        · by_cases h : t = 3
          · subst h
            have HCK := Lib.hid fun W h => HCN.out 3 W h
            rw [show canB 3 x = true from (HT.out.can 3 (by decide) (by decide)).trans (decide_eq_true rfl)] at HCK
            rw [show cntE 3 3 = 0 by decide]
            have q1 : (x.kind != 4) = false := by rw [HT.out.k3 rfl]; rfl
            have h1 : Hid (cntE 3 4 = 1) := by unfold Hid; decide
            clear HCN HC4 hp hk1 hk4
            go_wp2_with (go_at_call 13; (with_reducible refine (HCK.out _ (HX.out.next HS5.out.below)).mono ?_); rintro e w6 ⟨rfl, hb6⟩; have HS6 := Lib.hid (HS5.out.next hb6); clear hb6 c0 c1 c2 c3 c4 c5 c6 c7; obtain ⟨c0, c1, c2, c3, c4, c5, c6, c7⟩ := HS6.out.box.cells)
            go_roundw
            case rel => exact ⟨4, by decide, by decide, rfl, by rw [h1.out], HS6.out⟩
            case measure => simp [intOf]
          · by_cases h2 : t < 3
            · have HCK := Lib.hid fun W h => HCN.out 3 W h
              rw [show canB 3 x = false from (HT.out.can 3 (by decide) (by decide)).trans (decide_eq_false (fun e => h e.symm))] at HCK
              rw [show cntE t 3 = 1 by unfold cntE; rw [if_pos h2]]
              have h1 : Hid (cntE t 4 = 1) := by unfold Hid cntE; rw [if_pos (by omega)]
              clear HCN HC4 hp hk1 hk4 h h2
              go_wp2_with (go_at_call 13; (with_reducible refine (HCK.out _ (HX.out.next HS5.out.below)).mono ?_); rintro e w6 ⟨rfl, hb6⟩; have HS6 := Lib.hid (HS5.out.next hb6); clear hb6 c0 c1 c2 c3 c4 c5 c6 c7; obtain ⟨c0, c1, c2, c3, c4, c5, c6, c7⟩ := HS6.out.box.cells)
              go_roundw
              case rel => exact ⟨4, by decide, by decide, rfl, by rw [h1.out], HS6.out⟩
              case measure => simp [intOf]
            · have HCK := Lib.hid fun W h => HCN.out 3 W h
              rw [show canB 3 x = false from (HT.out.can 3 (by decide) (by decide)).trans (decide_eq_false (fun e => h e.symm))] at HCK
              rw [show cntE t 3 = 0 by unfold cntE; rw [if_neg h2]]
              have h1 : Hid (cntE t 4 = 0) := by unfold Hid cntE; rw [if_neg (by omega)]
              clear HCN HC4 hp hk1 hk4 h h2
              go_wp2_with (go_at_call 13; (with_reducible refine (HCK.out _ (HX.out.next HS5.out.below)).mono ?_); rintro e w6 ⟨rfl, hb6⟩; have HS6 := Lib.hid (HS5.out.next hb6); clear hb6 c0 c1 c2 c3 c4 c5 c6 c7; obtain ⟨c0, c1, c2, c3, c4, c5, c6, c7⟩ := HS6.out.box.cells)
              go_roundw
              case rel => exact ⟨4, by decide, by decide, rfl, by rw [h1.out], HS6.out⟩
              case measure => simp [intOf]
        · have h1 : cntE t 4 ≤ 1 := by unfold cntE; split <;> decide
          have HCK : Hid (∀ j W, 3 < j → j ≤ 5 → HasIns W (.slice an L cn) (.slice am M cm) x → Calls Try.prog 13 #[.int .i64 j, .agg #[.string x.name, .int .i64 x.kind, .int .i64 x.metric, .int .i64 x.scale, .int .i64 x.cap, .int .i64 x.fleet, .slice an L cn, .slice am M cm]] W fun e w' => e = .returned (.bool true) ∧ Below W.heap.size W w') := fun j W h4 h5 h => by have := HCN.out j W h; rwa [HC4.out j h4 h5] at this
          clear HCN HC4 hp hk1 hk4
          generalize cntE t 4 = n at *
          go_wp2_with (first | (go_at_call 13; (with_reducible refine (HCK.out 4 _ (by decide) (by decide) (HX.out.next HS5.out.below)).mono ?_); rintro e w6 ⟨rfl, hb6⟩; have HS6 := Lib.hid (HS5.out.next hb6); clear hb6 c0 c1 c2 c3 c4 c5 c6 c7; obtain ⟨c0, c1, c2, c3, c4, c5, c6, c7⟩ := HS6.out.box.cells) | (go_at_call 13; (with_reducible refine (HCK.out 5 _ (by decide) (by decide) (HX.out.next HS6.out.below)).mono ?_); rintro e w7 ⟨rfl, hb7⟩; have HS7 := Lib.hid (HS6.out.next hb7); clear hb7))
          go_ret
          exact ⟨rfl, HS7.out.below⟩
end Go.Proofs
