/- The law ExpressTells, as a contract. Conditions: what package express answers. -/
import Derived.Test.YtebkmcafahkdbaaG07
namespace Go.Proofs
open Go.RowKit Go.Shelf Go.Canon Go.Expr
attribute [local go_sem] Oper.semAt_some
/-- An instance in its box. -/
structure ExS (w : World) (x : Ins) (vn vm : Value) (W : World) : Prop where
  box : InsBox W w.heap.size x vn vm 25
  below : Below w.heap.size w W
theorem ExS.next {w W W' : World} {x : Ins} {vn vm : Value} (h : ExS w x vn vm W) (hb : Below W.heap.size W W') : ExS w x vn vm W' := ⟨h.box.next hb, h.below.trans (hb.mono h.below.size)⟩
theorem ExS.new (w : World) (x : Ins) (vn vm : Value) : ExS w x vn vm (w.alloc (.cells #[.string x.name, .int .i64 x.kind, .int .i64 x.metric, .int .i64 x.scale, .int .i64 x.cap, .int .i64 x.fleet, vn, vm] 25)) := ⟨InsBox.new w x vn vm 25, fbelow_box w _⟩
theorem Try.its12_any (x : Ins) (vn vm : Value) (w : World) (hx : HasIns w vn vm x) (h1 : x.nodes.length ≤ 419) :
    Calls Try.prog 12 #[insV x vn vm] w fun e w' => ∃ v', e = .returned (insV x v' vm) ∧ HasIns w' v' vm x ∧ Below w.heap.size w w' :=
  (Try.fits12_calls x vn vm w hx h1).mono fun _ _ ⟨v', h1, h2, h3⟩ => ⟨v', h1, ⟨nodes_of_owns h2, hx.matrix.next h3⟩, h3⟩
set_option maxRecDepth 100000 in
set_option maxHeartbeats 4000000 in
theorem Try.ExpressTells_calls (H : Try.ExprC) (f : Int) (x : Ins) (vn vm : Value) (w : World) (hx : HasIns w vn vm x) :
    Calls Try.prog 3 #[.int .i64 f, insV x vn vm] w fun e w' => e = .returned (.bool true) ∧ Below w.heap.size w w' := by
  have HX := Lib.hid hx
  have HSH := Lib.hid fun W => Try.shown12_calls H W
  cases hq : longE x with
  | true =>
    have HW : Hid (∀ W, HasIns W vn vm x → Calls Try.prog 7 #[insV x vn vm] W fun e w' => e = .returned (.bool true) ∧ Below W.heap.size W w') := fun W h => hq ▸ Try.long12_calls x vn vm W h
    obtain ⟨an, cn, rfl, _⟩ := hx.nodes.dat
    obtain ⟨am, cm, rfl, _⟩ := hx.matrix.dat
    unfold insV at HW ⊢
    clear hx hq H
    generalize x.nodes.length = L at *
    generalize x.matrix.length = M at *
    have HS0 := Lib.hid (ExS.new w x (.slice an L cn) (.slice am M cm))
    obtain ⟨c0, c1, c2, c3, c4, c5, c6, c7⟩ := HS0.out.box.cells
    go_enter Try.func3, Try.ntmps3
    go_wp2_with (first | (go_at_call 7; (with_reducible refine (HW.out _ (HX.out.next HS0.out.below)).mono ?_); rintro e w1 ⟨rfl, hb1⟩; have HS1 := Lib.hid (HS0.out.next hb1)) | (go_at_call 8; (with_reducible refine (HSH.out _).mono ?_); rintro e w2 ⟨rfl, hb2⟩))
    go_ret
    exact ⟨rfl, HS1.out.below.trans (hb2.mono HS1.out.below.size)⟩
  | false =>
    have HW : Hid (∀ W, HasIns W vn vm x → Calls Try.prog 7 #[insV x vn vm] W fun e w' => e = .returned (.bool false) ∧ Below W.heap.size W w') := fun W h => hq ▸ Try.long12_calls x vn vm W h
    have hn := (longE_no hq).1
    have HLK := Lib.hid fun W h => H.lacks f x vn vm W h hn
    have HCN := Lib.hid fun W h => H.can f x vn vm W h hn
    have HIT := Lib.hid fun W h => Try.its12_any x vn vm W h (by omega)
    have HRL := Lib.hid fun v W h => Try.rLacks_calls x v vm f W h (by omega)
    have hll : (lacksL f x).length ≤ 13 := lacksN_len f x 13
    have HIE : Hid (∀ u1 u2 W, HasInts W u1 (lacksL f x) → HasInts W u2 (lacksL f x) → Calls Try.prog 10 #[u1, u2] W fun e w' => e = .returned (.bool true) ∧ Below W.heap.size W w') := fun u1 u2 W h1 h2 => (Try.RInts_calls u1 u2 _ _ W (by omega) h1 h2).mono fun e w' h => ⟨h.1.trans (by simp), h.2⟩
    have HCB : Hid (canB f x = decide ((lacksL f x).length = 0)) := rfl
    obtain ⟨an, cn, rfl, _⟩ := hx.nodes.dat
    obtain ⟨am, cm, rfl, _⟩ := hx.matrix.dat
    unfold insV at HW HLK HCN HIT HRL ⊢
    clear hx hq H
    generalize x.nodes.length = L at *
    generalize x.matrix.length = M at *
    generalize lacksL f x = K at *
    obtain ⟨n, hN⟩ : ∃ n, K.length = n := ⟨_, rfl⟩
    have HN := Lib.hid hN
    rw [hN] at HCB
    clear hN hll
    have HS0 := Lib.hid (ExS.new w x (.slice an L cn) (.slice am M cm))
    obtain ⟨c0, c1, c2, c3, c4, c5, c6, c7⟩ := HS0.out.box.cells
    go_enter Try.func3, Try.ntmps3
    go_upto_region 3 with (first | (go_at_call 7; (with_reducible refine (HW.out _ (HX.out.next HS0.out.below)).mono ?_); rintro e w1 ⟨rfl, hb1⟩; have HS1 := Lib.hid (HS0.out.next hb1)) | (go_at_call 8; (with_reducible refine (HSH.out _).mono ?_); rintro e w2 ⟨rfl, hb2⟩; have HS2 := Lib.hid (HS1.out.next hb2); clear c0 c1 c2 c3 c4 c5 c6 c7; obtain ⟨c0, c1, c2, c3, c4, c5, c6, c7⟩ := HS2.out.box.cells))
    go_upto_region 4 with (go_at_call 9; (with_reducible refine (HLK.out _ (HX.out.next HS2.out.below)).mono ?_); rintro e w5 ⟨v5, rfl, hv5, hb5⟩; have HS5 := Lib.hid (HS2.out.next hb5); have HV5 := Lib.hid hv5; obtain ⟨a5, k5, rfl⟩ := hv5.len; clear hv5 hb5 c0 c1 c2 c3 c4 c5 c6 c7; obtain ⟨c0, c1, c2, c3, c4, c5, c6, c7⟩ := HS5.out.box.cells)
    rw [HN.out] at HV5 ⊢
    by_cases h0 : n = 0
    · have hc : canB f x = true := by rw [HCB.out, decide_eq_true h0]
      have hb : ((n : Int) == 0) = true := by rw [h0]; rfl
      rw [hc] at HCN
      clear h0 hc HCB
      go_wp2_with (first
        | (go_at_call 12; (with_reducible refine (HIT.out _ (HX.out.next HS5.out.below)).mono ?_); rintro e w6 ⟨v6, rfl, hv6, hb6⟩; have HS6 := Lib.hid (HS5.out.next hb6); have HV6 := Lib.hid (HV5.out.next hb6); have HX6 := Lib.hid hv6; clear hv6 hb6 c0 c1 c2 c3 c4 c5 c6 c7; obtain ⟨c0, c1, c2, c3, c4, c5, c6, c7⟩ := HS6.out.box.cells)
        | (go_at_call 11; (with_reducible refine (HRL.out _ _ HX6.out).mono ?_); rintro e w7 ⟨v7, rfl, hv7, hb7⟩; have HS7 := Lib.hid (HS6.out.next hb7); have HV7 := Lib.hid (HV6.out.next hb7); have HU7 := Lib.hid hv7; clear hv7 hb7 c0 c1 c2 c3 c4 c5 c6 c7; obtain ⟨c0, c1, c2, c3, c4, c5, c6, c7⟩ := HS7.out.box.cells)
        | (go_at_call 10; (with_reducible refine (HIE.out _ _ _ HV7.out HU7.out).mono ?_); rintro e w8 ⟨rfl, hb8⟩; have HS8 := Lib.hid (HS7.out.next hb8); clear hb8 c0 c1 c2 c3 c4 c5 c6 c7; obtain ⟨c0, c1, c2, c3, c4, c5, c6, c7⟩ := HS8.out.box.cells)
        | (go_at_call 13; (with_reducible refine (HCN.out _ (HX.out.next HS8.out.below)).mono ?_); rintro e w9 ⟨rfl, hb9⟩; have HS9 := Lib.hid (HS8.out.next hb9); clear hb9 c0 c1 c2 c3 c4 c5 c6 c7))
      go_ret
      exact ⟨rfl, HS9.out.below⟩
    · have hc : canB f x = false := by rw [HCB.out, decide_eq_false h0]
      have hb : ((n : Int) == 0) = false := beq_eq_false_iff_ne.2 (by omega)
      rw [hc] at HCN
      clear h0 hc HCB
      go_wp2_with (first
        | (go_at_call 12; (with_reducible refine (HIT.out _ (HX.out.next HS5.out.below)).mono ?_); rintro e w6 ⟨v6, rfl, hv6, hb6⟩; have HS6 := Lib.hid (HS5.out.next hb6); have HV6 := Lib.hid (HV5.out.next hb6); have HX6 := Lib.hid hv6; clear hv6 hb6 c0 c1 c2 c3 c4 c5 c6 c7; obtain ⟨c0, c1, c2, c3, c4, c5, c6, c7⟩ := HS6.out.box.cells)
        | (go_at_call 11; (with_reducible refine (HRL.out _ _ HX6.out).mono ?_); rintro e w7 ⟨v7, rfl, hv7, hb7⟩; have HS7 := Lib.hid (HS6.out.next hb7); have HV7 := Lib.hid (HV6.out.next hb7); have HU7 := Lib.hid hv7; clear hv7 hb7 c0 c1 c2 c3 c4 c5 c6 c7; obtain ⟨c0, c1, c2, c3, c4, c5, c6, c7⟩ := HS7.out.box.cells)
        | (go_at_call 10; (with_reducible refine (HIE.out _ _ _ HV7.out HU7.out).mono ?_); rintro e w8 ⟨rfl, hb8⟩; have HS8 := Lib.hid (HS7.out.next hb8); clear hb8 c0 c1 c2 c3 c4 c5 c6 c7; obtain ⟨c0, c1, c2, c3, c4, c5, c6, c7⟩ := HS8.out.box.cells)
        | (go_at_call 13; (with_reducible refine (HCN.out _ (HX.out.next HS8.out.below)).mono ?_); rintro e w9 ⟨rfl, hb9⟩; have HS9 := Lib.hid (HS8.out.next hb9); clear hb9 c0 c1 c2 c3 c4 c5 c6 c7))
      go_ret
      exact ⟨rfl, HS9.out.below⟩
end Go.Proofs
