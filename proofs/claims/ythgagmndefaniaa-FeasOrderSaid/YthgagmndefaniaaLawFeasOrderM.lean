/- The law FeasOrder, as a contract. Conditions: what package feas answers. -/
import Derived.Test.YthgagmndefaniaaG10
import Derived.Test.YthgagmndefaniaaG29
import Derived.Test.YthgagmndefaniaaG21
import Derived.Test.YthgagmndefaniaaG19
import Derived.Test.YthgagmndefaniaaG30
import Derived.Deep.DrawnRows
import Derived.Deep.RegionHeld3
import Derived.Deep.Cut
import Derived.Deep.CutRange
namespace Go.Proofs
open Go.RowKit Go.Shelf Go.Canon Go.Feas Go.Plans
open List (getElem_toArray getElem_cons_succ getElem_cons_zero setIfInBounds_toArray set_cons_zero set_cons_succ)
attribute [local go_sem] Oper.semAt_some
attribute [local go_sem ↓] Go.wp_at_zero Go.wp_at_succ
theorem Try.info23 : (Try.prog.info? 23).map (fun i => (i.zero, i.size, i.bytes)) = some (some (.slice none 0 0), 1, 24) := by kernel_rfl
theorem oslice {W : World} {A e k n : Nat} {v : Value} {xs : List Value} (h : W.ownsRow A e k v n xs) : ∃ a c, v = .slice a n c := by
 rcases h.2 with ⟨rfl, h0⟩ | ⟨g, cap, cur, rfl, _⟩
 ·exact ⟨none, 0, by rw [h0]⟩
 ·exact ⟨_, _, rfl⟩
theorem own_fresh {W : World} {A n : Nat} {v : Value} {xs : List Value} (h : W.ownsRow A 23 1 v n xs) : v.ownBlock ≠ some W.heap.size := by
 intro e
 rcases h.2 with ⟨rfl, _⟩ | ⟨g, cap, cur, rfl, _, hg, _⟩
 ·cases e
 ·have h1 := (Array.getElem?_eq_some_iff.1 hg).1
  have h2 : g = W.heap.size := Option.some.inj e
  omega
theorem boxed_keep {W X : World} {b : Nat} {t : TypeId} {u : Value} {row : Option Nat} (h : Boxed W b t u) (hne : row ≠ some b) (hg : W.grownBy X row) : Boxed X b t u := by
 have hlt := (Array.getElem?_eq_some_iff.1 h).1
 exact (hg.block b hlt (fun e => hne e.symm)).trans h
theorem boxed_news {W : World} {b : Nat} {t : TypeId} {u : Value} (h : Boxed W b t u) : NewsAt W (some ⟨b, 0, none⟩) 1 [u] := by
 refine .inr ⟨_, rfl, fun j x hj => ?_⟩
 rw [Addr.add_lit]
 cases j with
 | zero => cases hj; exact h.cell
 | succ j => simp at hj
theorem rts_drop {W : World} {b off n cap k c : Nat} {rr : Rts} (h : HasRts W (.slice (some ⟨b, off, none⟩) n cap) rr) (h0 : n ≠ 0) (hk : k ≤ n) (hc : n - k ≤ c) (hm : c ≤ maxLen) : HasRts W (.slice (some ⟨b, off + k, none⟩) (n - k) c) (rr.drop k) := by
 rcases h with ⟨rfl, ao, cp, e⟩ | ⟨b', off', cp, e, h2, h3, h4⟩
 ·injection e with e1 e2 e3; exact absurd e2 h0
 ·injection e with e1 e2 e3
  cases e1
  subst e2
  refine .inr ⟨b, off + k, c, by rw [List.length_drop], by rw [List.length_drop]; exact hc, hm, h4.1, fun i l hi => ?_⟩
  rw [List.getElem?_drop] at hi
  obtain ⟨u, k1, k2⟩ := h4.2 _ l hi
  exact ⟨u, by rw [Nat.add_assoc]; exact k1, k2⟩
theorem rts_take {W : World} {b off n cap k c : Nat} {rr : Rts} (h : HasRts W (.slice (some ⟨b, off, none⟩) n cap) rr) (h0 : n ≠ 0) (hk : k ≤ n) (hc : k ≤ c) (hm : c ≤ maxLen) : HasRts W (.slice (some ⟨b, off, none⟩) k c) (rr.take k) := by
 rcases h with ⟨rfl, ao, cp, e⟩ | ⟨b', off', cp, e, h2, h3, h4⟩
 ·injection e with e1 e2 e3; exact absurd e2 h0
 ·injection e with e1 e2 e3
  cases e1
  subst e2
  have hl : (rr.take k).length = k := by rw [List.length_take]; omega
  refine .inr ⟨b, off, c, by rw [hl], by rw [hl]; exact hc, hm, h4.1, fun i l hi => ?_⟩
  rw [List.getElem?_take] at hi
  split at hi
  ·exact h4.2 i l hi
  ·cases hi
theorem rts_shape {W : World} {a : Option Addr} {n cap : Nat} {rr : Rts} (h : HasRts W (.slice a n cap) rr) (h0 : n ≠ 0) : n ≤ cap ∧ cap ≤ maxLen ∧ ∃ b off, a = some ⟨b, off, none⟩ := by
 rcases h with ⟨rfl, ao, cp, e⟩ | ⟨b', off', cp, e, h2, h3, h4⟩
 ·injection e with e1 e2 e3; exact absurd e2 h0
 ·injection e with e1 e2 e3
  subst e1; subst e2; subst e3
  exact ⟨h2, h3, _, _, rfl⟩
theorem read_turned {w : World} {us vs : List Value} {rr : Rts} {k g : Nat} (h : ReadAs w us (rr.drop k)) (h' : ReadAs w vs (rr.take k)) : ReadAs w ((us ++ [.slice (some ⟨g, 0, none⟩) 0 0]) ++ vs) (turned rr k) := by
 refine ReadAs.append (ReadAs.append h ⟨rfl, fun i l hi => ?_⟩) h'
 cases i with
 | zero => cases hi; exact ⟨_, rfl, .inl ⟨rfl, _, _, rfl⟩⟩
 | succ i => simp at hi
/-- Beside the instance and the plan: another plan in its box. -/
structure OrS (w : World) (x : Ins) (vn vm vp : Value) (bb : Nat) (vq : Value) (q : Rts) (W : World) : Prop where
 b : LwS w x vn vm vp W
 qbox : BoxAt W bb vq
 hq : HasRts W vq q
theorem OrS.next {w W W' : World} {x : Ins} {vn vm vp vq : Value} {bb : Nat} {q : Rts} (h : OrS w x vn vm vp bb vq q W) (hb : Below W.heap.size W W') : OrS w x vn vm vp bb vq q W' := ⟨h.b.next hb, h.qbox.next hb, h.hq.next hb⟩
theorem OrS.drew {w W : World} {x : Ins} {vn vm vp vq : Value} {bb : Nat} {q : Rts} (h : OrS w x vn vm vp bb vq q W) : OrS w x vn vm vp bb vq q W.drew := ⟨h.b.drew, h.qbox, h.hq.next ((Below.refl _ _).drew)⟩
theorem orS_S {w W : World} {x : Ins} {vn vm vp vq : Value} {bb : Nat} {q : Rts} (h : OrS w x vn vm vp bb vq q W) : W.cell? ⟨w.heap.size, 0, none⟩ = some (.string x.name) ∧ W.cell? ⟨w.heap.size, 1, none⟩ = some (.int .i64 x.kind) ∧ W.cell? ⟨w.heap.size, 2, none⟩ = some (.int .i64 x.metric) ∧ W.cell? ⟨w.heap.size, 3, none⟩ = some (.int .i64 x.scale) ∧ W.cell? ⟨w.heap.size, 4, none⟩ = some (.int .i64 x.cap) ∧ W.cell? ⟨w.heap.size, 5, none⟩ = some (.int .i64 x.fleet) ∧ W.cell? ⟨w.heap.size, 6, none⟩ = some vn ∧ W.cell? ⟨w.heap.size, 7, none⟩ = some vm ∧ W.cell? ⟨w.heap.size + 1, 0, none⟩ = some vp ∧ W.cell? ⟨bb, 0, none⟩ = some vq ∧ OrS w x vn vm vp bb vq q W := by
 obtain ⟨c0, c1, c2, c3, c4, c5, c6, c7⟩ := h.b.box.cells
 exact ⟨c0, c1, c2, c3, c4, c5, c6, c7, h.b.pbox.1, h.qbox.1, h⟩
theorem turned_end {w W W' : World} {A n bb : Nat} {v : Value} {us : List Value} {q : Rts} (hO : W.ownsRow A 23 1 v n us) (hB : Boxed W bb 28 (.slice none 0 0))
  (hR : ReadAs w us q) (hb : Below w.heap.size w W') (hW : W' = W.setCell ⟨bb, 0, none⟩ v) (hn : n = q.length) : BoxAt W' bb v ∧ HasRts W' v q := by
 have h3 := row_set (y := v) hO hB
 have h4 := hB.set v
 rw [← hW] at h3 h4
 subst hn
 exact ⟨⟨h4.cell, h4.lt⟩, rts_of_read h3 hR hb⟩
theorem turned_length (rr : Rts) (k : Nat) : (turned rr k).length = rr.length + 1 := by
 unfold turned
 simp only [List.length_append, List.length_drop, List.length_take, List.length_cons, List.length_nil]
 omega
theorem turned_many (rr : Rts) (k : Nat) : many (turned rr k) = many rr := by
 have h := many_append (rr.take k) (rr.drop k)
 rw [List.take_append_drop] at h
 unfold turned
 rw [many_append, many_append, h]
 have : many [[]] = 0 := rfl
 omega
set_option maxRecDepth 100000 in
set_option maxHeartbeats 4000000 in
theorem Try.FeasOrder_calls (H : Try.FeasC) (x : Ins) (vn vm v : Value) (rr : Rts) (by_ : Int) (hb0 : 0 ≤ by_) (hb1 : by_ ≤ 255) (w : World) (hx : HasIns w vn vm x) (hv : HasRts w v rr) :
  Calls Try.prog 6 #[insV x vn vm, planV v, .int .u8 by_] w fun e w' => e = .returned (.bool true) ∧ Below w.heap.size w w' := by
 have HX := Lib.hid hx
 have HV := Lib.hid hv
 have HSH := Lib.hid fun W => Try.fshown_calls H W
 cases hq : wellQ x with
 | false =>
  have HW : Hid (∀ W, HasIns W vn vm x → Calls Try.prog 11 #[insV x vn vm] W fun e w' => e = .returned (.bool false) ∧ Below W.heap.size W w') := fun W h => hq ▸ Try.lwell_calls x vn vm W h
  obtain ⟨an, cn, rfl, _⟩ := hx.nodes.dat
  obtain ⟨am, cm, rfl, _⟩ := hx.matrix.dat
  obtain ⟨ap, cp, rfl⟩ := hv.len
  unfold insV at HW ⊢
  unfold planV
  clear hx hv hq H
  generalize x.nodes.length = L at *
  generalize x.matrix.length = M at *
  generalize rr.length = N at *
  have HS0 := Lib.hid (lwS_start w x (.slice an L cn) (.slice am M cm) (.slice ap N cp))
  go_enter Try.func6, Try.ntmps6
  go_wp2_with (first | (go_at_call 11; (with_reducible refine (HW.out _ (HX.out.next HS0.out.below)).mono ?_); rintro e w1 ⟨rfl, hb1⟩; have HS1 := Lib.hid (HS0.out.next hb1)) | (go_at_call 13; (with_reducible refine (HSH.out _).mono ?_); rintro e w2 ⟨rfl, hb2⟩))
  go_ret
  exact ⟨rfl, HS1.out.below.trans (hb2.mono HS1.out.below.size)⟩
 | true =>
  have HW : Hid (∀ W, HasIns W vn vm x → Calls Try.prog 11 #[insV x vn vm] W fun e w' => e = .returned (.bool true) ∧ Below W.heap.size W w') := fun W h => hq ▸ Try.lwell_calls x vn vm W h
  have HQ := Lib.hid (wellQ_iff.1 hq)
  cases hlo : longQ rr with
  | true =>
   have HL : Hid (∀ W, HasRts W v rr → Calls Try.prog 12 #[planV v] W fun e w' => e = .returned (.bool true) ∧ Below W.heap.size W w') := fun W h => hlo ▸ Try.feasLong_calls v rr W h
   obtain ⟨an, cn, rfl, _⟩ := hx.nodes.dat
   obtain ⟨am, cm, rfl, _⟩ := hx.matrix.dat
   obtain ⟨ap, cp, rfl⟩ := hv.len
   unfold insV at HW ⊢
   unfold planV at HL ⊢
   clear hx hv hq hlo H HQ
   generalize x.nodes.length = L at *
   generalize x.matrix.length = M at *
   generalize rr.length = N at *
   have HS0 := Lib.hid (lwS_start w x (.slice an L cn) (.slice am M cm) (.slice ap N cp))
   go_enter Try.func6, Try.ntmps6
   go_wp2_with (first | (go_at_call 11; (with_reducible refine (HW.out _ (HX.out.next HS0.out.below)).mono ?_); rintro e w1 ⟨rfl, hb1⟩; have HS1 := Lib.hid (HS0.out.next hb1); obtain ⟨c0, c1, c2, c3, c4, c5, c6, c7, hp0, -⟩ := lwS_S HS1.out) | (go_at_call 12; (with_reducible refine (HL.out _ (HV.out.next HS1.out.below)).mono ?_); rintro e w3 ⟨rfl, hb3⟩; have HS3 := Lib.hid (HS1.out.next hb3)) | (go_at_call 13; (with_reducible refine (HSH.out _).mono ?_); rintro e w2 ⟨rfl, hb2⟩))
   go_ret
   exact ⟨rfl, HS3.out.below.trans (hb2.mono HS3.out.below.size)⟩
  | false =>
   have HL : Hid (∀ W, HasRts W v rr → Calls Try.prog 12 #[planV v] W fun e w' => e = .returned (.bool false) ∧ Below W.heap.size W w') := fun W h => hlo ▸ Try.feasLong_calls v rr W h
   have HFI := Lib.hid (fine_of HQ.out.well)
   have hN2 := (longQ_fits hlo).1
   have hmn := (longQ_fits hlo).2
   have HLN := Lib.hid (longQ_fits hlo)
   have HLL := Lib.hid ((flong_no hlo).2.1)
   obtain ⟨an, cn, rfl, _⟩ := hx.nodes.dat
   obtain ⟨am, cm, rfl, _⟩ := hx.matrix.dat
   obtain ⟨ap, cp, rfl⟩ := hv.len
   unfold insV at HW ⊢
   unfold planV at HL ⊢
   obtain ⟨N, hN0⟩ : ∃ N, rr.length = N := ⟨_, rfl⟩
   by_cases hn0 : N = 0
   ·subst hn0
    rw [hN0] at HL HV ⊢
    clear hx hv hq hlo H HQ HLN hN2 hN0
    generalize x.nodes.length = L at *
    generalize x.matrix.length = M at *
    have HS0 := Lib.hid (lwS_start w x (.slice an L cn) (.slice am M cm) (.slice ap 0 cp))
    go_enter Try.func6, Try.ntmps6
    go_wp2_with (first | (go_at_call 11; (with_reducible refine (HW.out _ (HX.out.next HS0.out.below)).mono ?_); rintro e w1 ⟨rfl, hb1⟩; have HS1 := Lib.hid (HS0.out.next hb1); obtain ⟨c0, c1, c2, c3, c4, c5, c6, c7, hp0, -⟩ := lwS_S HS1.out) | (go_at_call 12; (with_reducible refine (HL.out _ (HV.out.next HS1.out.below)).mono ?_); rintro e w3 ⟨rfl, hb3⟩; have HS3 := Lib.hid (HS1.out.next hb3); clear c0 c1 c2 c3 c4 c5 c6 c7 hp0; obtain ⟨c0, c1, c2, c3, c4, c5, c6, c7, hp0, -⟩ := lwS_S HS3.out) | (go_at_call 13; (with_reducible refine (HSH.out _).mono ?_); rintro e w2 ⟨rfl, hb2⟩))
    go_ret
    exact ⟨rfl, HS3.out.below.trans (hb2.mono HS3.out.below.size)⟩
   rw [hN0] at HL HV hv hN2 HLN ⊢
   have HN0 := Lib.hid hN0
   obtain ⟨hcp, hcm, pb, po, rfl⟩ := rts_shape hv hn0
   obtain ⟨K, hK⟩ : ∃ K : Nat, by_ % (N : Int) = (K : Int) := ⟨(by_ % (N : Int)).toNat, by have := Int.emod_nonneg by_ (show (N : Int) ≠ 0 by omega); omega⟩
   have hKN : K < N := by have := Int.emod_lt_of_pos by_ (show (0 : Int) < N by omega); omega
   have HKK := Lib.hid hK
   have hk1 : K ≤ N := by omega
   have hk2 : K ≤ cp := by omega
   have hk3 : ¬ cp = K := by omega
   obtain ⟨us, hus, hus1, husr, husn⟩ := rts_news (rts_drop (k := K) (c := cp - K) hv hn0 (by omega) (by omega) (by omega))
   obtain ⟨vs, hvs, hvs1, hvsr, hvsn⟩ := rts_news (rts_take (k := K) (c := cp) hv hn0 (by omega) (by omega) (by omega))
   obtain ⟨i0, hi, hz0, hz1, hz2⟩ := info_parts Try.info23
   have HI0 := Lib.hid hi
   replace husn := Lib.hid husn
   replace hvsn := Lib.hid hvsn
   replace hus := Lib.hid hus
   replace hvs := Lib.hid hvs
   replace husr := Lib.hid husr
   replace hvsr := Lib.hid hvsr
   clear hi hx hv hq hlo hN0 hK
   generalize x.nodes.length = L at *
   generalize x.matrix.length = M at *
   have hz : ((N : Int) == 0) = false := by simpa using hn0
   have HS0 := Lib.hid (lwS_start w x (.slice an L cn) (.slice am M cm) (.slice (some ⟨pb, po, none⟩) N cp))
   go_enter Try.func6, Try.ntmps6
   go_upto_region 3 with (first | (go_at_call 11; (with_reducible refine (HW.out _ (HX.out.next HS0.out.below)).mono ?_); rintro e w1 ⟨rfl, hb1⟩; have HS1 := Lib.hid (HS0.out.next hb1); obtain ⟨c0, c1, c2, c3, c4, c5, c6, c7, hp0, -⟩ := lwS_S HS1.out) | (go_at_call 12; (with_reducible refine (HL.out _ (HV.out.next HS1.out.below)).mono ?_); rintro e w3 ⟨rfl, hb3⟩; have HS3 := Lib.hid (HS1.out.next hb3); clear c0 c1 c2 c3 c4 c5 c6 c7 hp0; obtain ⟨c0, c1, c2, c3, c4, c5, c6, c7, hp0, -⟩ := lwS_S HS3.out) | (go_at_call 13; (with_reducible refine (HSH.out _).mono ?_); rintro e w2 ⟨rfl, hb2⟩; have HS4 := Lib.hid (HS3.out.next hb2); clear c0 c1 c2 c3 c4 c5 c6 c7 hp0; obtain ⟨c0, c1, c2, c3, c4, c5, c6, c7, hp0, -⟩ := lwS_S HS4.out))
   clear HS0 HS1 HS3 HW HL HSH hb1 hb2 hb3
   go_upto_region 4 with (fail)
   rw [HKK.out]
   clear HKK c0 c1 c2 c3 c4 c5 c6 c7 hp0
   have PP := Lib.hid HS4.out
   have BW2 := Lib.hid HS4.out.below
   clear HS4
   go_cut [8] from 34 to 49 (fun s8 wx => ∃ (bb : Nat) (vq : Value), s8 = .pointer (some ⟨bb, 0, none⟩) ∧ OrS w x (.slice an L cn) (.slice am M cm) (.slice (some ⟨pb, po, none⟩) N cp) bb vq (turned rr K) wx)
   case first =>
    refine wp_region_held_drew (S := (fun W => W.cell? ⟨w.heap.size + 1, 0, none⟩ = some (.slice (some ⟨pb, po, none⟩) N cp) ∧ Below w2.heap.size w2 W)) (by kernel_rfl) ⟨PP.out.drew.pbox.1, (Below.refl _ w2).drew⟩ (fun hH0 => ?_)
    have belW4 : Below w2.heap.size w2 w2.drew := (Below.refl _ w2).drew
    clear hH0
    generalize w2.drew = W4 at *
    refine wpAnyH_take (i := 1) (v := ?_) rfl (by kernel_rfl) (by kernel_rfl) (by kernel_rfl) (fun _ _ _ h => h) (Or.inl ⟨by kernel_rfl, ?_⟩) ⟨(PP.out.pbox.next belW4).1, belW4⟩ ?_
    rotate_left
    ·(intro w0 z; (try dsimp only at z); obtain ⟨c0, hLB⟩ := z; go_simp; try with_reducible rfl)
    try dsimp only [getElem_toArray, getElem_cons_succ, getElem_cons_zero, Act.put]
    try simp only [setIfInBounds_toArray, set_cons_zero, set_cons_succ]
    refine wpAnyH_take (i := 2) (v := ?_) rfl (by kernel_rfl) (by kernel_rfl) (by kernel_rfl) (fun _ _ _ h => h) (Or.inl ⟨by kernel_rfl, ?_⟩) ⟨(PP.out.pbox.next belW4).1, belW4⟩ ?_
    rotate_left
    ·(intro w0 z; (try dsimp only at z); obtain ⟨c0, hLB⟩ := z; go_simp; try with_reducible rfl)
    try dsimp only [getElem_toArray, getElem_cons_succ, getElem_cons_zero, Act.put]
    try simp only [setIfInBounds_toArray, set_cons_zero, set_cons_succ]
    refine wpAnyH_take (i := 3) (v := ?_) rfl (by kernel_rfl) (by kernel_rfl) (by kernel_rfl) (fun _ _ _ h => h) (Or.inl ⟨by kernel_rfl, ?_⟩) ⟨(PP.out.pbox.next belW4).1, belW4⟩ ?_
    rotate_left
    ·(intro w0 z; (try dsimp only at z); obtain ⟨c0, hLB⟩ := z; go_simp; try with_reducible rfl)
    try dsimp only [getElem_toArray, getElem_cons_succ, getElem_cons_zero, Act.put]
    try simp only [setIfInBounds_toArray, set_cons_zero, set_cons_succ]
    refine wpAnyH_take (i := 4) (v := .slice (some ⟨pb, po + K, none⟩) (N - K) (cp - K)) rfl (by kernel_rfl) (by kernel_rfl) (by kernel_rfl) (fun _ _ _ h => h) (Or.inl ⟨by kernel_rfl, ?_⟩) ⟨(PP.out.pbox.next belW4).1, belW4⟩ ?_
    ·(intro w0 z; (try dsimp only at z); obtain ⟨c0, hLB⟩ := z; go_simp; (try simp only [if_pos hk1, if_pos hk2, if_neg hk3]); try rfl)
    try dsimp only [getElem_toArray, getElem_cons_succ, getElem_cons_zero, Act.put]
    try simp only [setIfInBounds_toArray, set_cons_zero, set_cons_succ]
    refine wpAnyH_take (i := 9) (v := ?_) rfl (by kernel_rfl) (by kernel_rfl) (by kernel_rfl) (fun _ _ _ h => h) (Or.inl ⟨by kernel_rfl, ?_⟩) ⟨(PP.out.pbox.next belW4).1, belW4⟩ ?_
    rotate_left
    ·(intro w0 z; (try dsimp only at z); obtain ⟨c0, hLB⟩ := z; go_simp; try with_reducible rfl)
    try dsimp only [getElem_toArray, getElem_cons_succ, getElem_cons_zero, Act.put]
    try simp only [setIfInBounds_toArray, set_cons_zero, set_cons_succ]
    refine wpAnyH_take (i := 10) (v := ?_) rfl (by kernel_rfl) (by kernel_rfl) (by kernel_rfl) (fun _ _ _ h => h) (Or.inl ⟨by kernel_rfl, ?_⟩) ⟨(PP.out.pbox.next belW4).1, belW4⟩ ?_
    rotate_left
    ·(intro w0 z; (try dsimp only at z); obtain ⟨c0, hLB⟩ := z; go_simp; try with_reducible rfl)
    try dsimp only [getElem_toArray, getElem_cons_succ, getElem_cons_zero, Act.put]
    try simp only [setIfInBounds_toArray, set_cons_zero, set_cons_succ]
    refine wpAnyH_take (i := 11) (v := ?_) rfl (by kernel_rfl) (by kernel_rfl) (by kernel_rfl) (fun _ _ _ h => h) (Or.inl ⟨by kernel_rfl, ?_⟩) ⟨(PP.out.pbox.next belW4).1, belW4⟩ ?_
    rotate_left
    ·(intro w0 z; (try dsimp only at z); obtain ⟨c0, hLB⟩ := z; go_simp; try with_reducible rfl)
    try dsimp only [getElem_toArray, getElem_cons_succ, getElem_cons_zero, Act.put]
    try simp only [setIfInBounds_toArray, set_cons_zero, set_cons_succ]
    refine wpAnyH_take (i := 12) (v := .slice (some ⟨pb, po, none⟩) K cp) rfl (by kernel_rfl) (by kernel_rfl) (by kernel_rfl) (fun _ _ _ h => h) (Or.inl ⟨by kernel_rfl, ?_⟩) ⟨(PP.out.pbox.next belW4).1, belW4⟩ ?_
    ·(intro w0 z; (try dsimp only at z); obtain ⟨c0, hLB⟩ := z; go_simp; (try simp only [if_pos hk1, if_pos hk2, if_neg hk3]); try rfl)
    try dsimp only [getElem_toArray, getElem_cons_succ, getElem_cons_zero, Act.put]
    try simp only [setIfInBounds_toArray, set_cons_zero, set_cons_succ]
    refine wpAnyH_ready (rs := [0, 6, 15]) (by kernel_rfl) (by simp) (AllReadyH.cons rfl (fun KK hKK => ?_) (AllReadyH.cons rfl (fun KK hKK => ?_) (AllReadyH.cons rfl (fun KK hKK => ?_) AllReadyH.nil)))
    ·go_simp
     obtain ⟨X1, hX1⟩ : ∃ X, X = W4.alloc (.cells #[] 23) := ⟨_, rfl⟩
     have belX1 : Below w2.heap.size w2 X1 := by rw [hX1]; exact belW4.alloc belW4.size _
     have hOX1 : X1.ownsRow w2.heap.size 23 1 (.slice (some ⟨W4.heap.size, 0, none⟩) 0 0) 0 [] := by rw [hX1]; exact rowS (World.alloc_heap_new _ _) belW4.size
     rw [← hX1]
     clear hX1
     refine hKK.out _ _ ⟨(PP.out.pbox.next belX1).1, belX1⟩ (fun _ => ?_)
     clear hKK KK
     try dsimp only [getElem_toArray, getElem_cons_succ, getElem_cons_zero, Act.put]
     try simp only [setIfInBounds_toArray, set_cons_zero, set_cons_succ]
     refine wpAnyH_ready (rs := [5, 6, 15]) (by kernel_rfl) (by simp) (AllReadyH.cons rfl (fun KK hKK => ?_) (AllReadyH.cons rfl (fun KK hKK => ?_) (AllReadyH.cons rfl (fun KK hKK => ?_) AllReadyH.nil)))
     ·refine step_append_vals rfl (.tmp 34) (.tmp 38) 26 rfl w2.heap.size 23 i0 (.slice none 0 0) 1 24 Try.underlying26 HI0.out hz0 hz1 hz2 rfl (by decide) (.slice (some ⟨W4.heap.size, 0, none⟩) 0 0) 0 [] rfl hOX1 (some ⟨pb, po + K, none⟩) (N - K) (cp - K) us rfl (by rw [hus.out, Nat.mul_one]) (husn.out _ (BW2.out.trans (belX1.mono BW2.out.size))) hus1 (by unfold maxLen; omega) (by omega) belX1.size ?_
      intro vX2 X2 hOX2 hgX2
      rw [Nat.zero_add, List.nil_append] at hOX2
      have belX2 : Below w2.heap.size w2 X2 := row_below belX1 belX1.size hOX1 hgX2
      obtain ⟨aX2, cX2, hvX2⟩ := oslice hOX2
      subst hvX2
      clear hgX2
      refine hKK.out _ _ ⟨(PP.out.pbox.next belX2).1, belX2⟩ (fun _ => ?_)
      clear hKK KK
      try dsimp only [getElem_toArray, getElem_cons_succ, getElem_cons_zero, Act.put]
      try simp only [setIfInBounds_toArray, set_cons_zero, set_cons_succ]
      refine wpAnyH_ready (rs := [6, 15]) (by kernel_rfl) (by simp) (AllReadyH.cons rfl (fun KK hKK => ?_) (AllReadyH.cons rfl (fun KK hKK => ?_) AllReadyH.nil))
      ·go_simp
       obtain ⟨X3, hX3⟩ : ∃ X, X = X2.alloc (.cells #[] 3) := ⟨_, rfl⟩
       have belX3 : Below w2.heap.size w2 X3 := by rw [hX3]; exact belX2.alloc belX2.size _
       have hOX3 := hOX2.alloc (.cells #[] 3)
       rw [← hX3] at hOX3
       rw [← hX3]
       clear hX3
       refine hKK.out _ _ ⟨(PP.out.pbox.next belX3).1, belX3⟩ (fun _ => ?_)
       clear hKK KK
       try dsimp only [getElem_toArray, getElem_cons_succ, getElem_cons_zero, Act.put]
       try simp only [setIfInBounds_toArray, set_cons_zero, set_cons_succ]
       refine wpAnyH_ready (rs := [7, 15]) (by kernel_rfl) (by simp) (AllReadyH.cons rfl (fun KK hKK => ?_) (AllReadyH.cons rfl (fun KK hKK => ?_) AllReadyH.nil))
       ·go_simp
        obtain ⟨X4, hX4⟩ : ∃ X, X = X3.alloc (.cells #[(.slice (some ⟨X2.heap.size, 0, none⟩) 0 0)] 23) := ⟨_, rfl⟩
        have belX4 : Below w2.heap.size w2 X4 := by rw [hX4]; exact belX3.alloc belX3.size _
        have hOX4 := hOX3.alloc (.cells #[(.slice (some ⟨X2.heap.size, 0, none⟩) 0 0)] 23)
        rw [← hX4] at hOX4
        obtain ⟨b7, hb7⟩ : ∃ b7, b7 = X3.heap.size := ⟨_, rfl⟩
        have hCX4 : Boxed X4 b7 23 (.slice (some ⟨X2.heap.size, 0, none⟩) 0 0) := by rw [hX4, hb7]; exact Boxed.new _ _ _
        have hne7 : ((.slice aX2 (N - K) cX2) : Value).ownBlock ≠ some b7 := by rw [hb7]; exact own_fresh hOX3
        rw [← hb7]
        clear hb7
        rw [← hX4]
        clear hX4
        refine hKK.out _ _ ⟨(PP.out.pbox.next belX4).1, belX4⟩ (fun _ => ?_)
        clear hKK KK
        try dsimp only [getElem_toArray, getElem_cons_succ, getElem_cons_zero, Act.put]
        try simp only [setIfInBounds_toArray, set_cons_zero, set_cons_succ]
        refine wpAnyH_ready (rs := [8, 15]) (by kernel_rfl) (by simp) (AllReadyH.cons rfl (fun KK hKK => ?_) (AllReadyH.cons rfl (fun KK hKK => ?_) AllReadyH.nil))
        ·refine step_append_vals rfl (.tmp 39) (.tmp 41) 26 rfl w2.heap.size 23 i0 (.slice none 0 0) 1 24 Try.underlying26 HI0.out hz0 hz1 hz2 rfl (by decide) (.slice aX2 (N - K) cX2) (N - K) us rfl hOX4 (some ⟨b7, 0, none⟩) 1 1 [(.slice (some ⟨X2.heap.size, 0, none⟩) 0 0)] rfl rfl (boxed_news hCX4) (fun u hu => by rw [List.mem_singleton.1 hu]; rfl) (by unfold maxLen; omega) (by omega) belX4.size ?_
         intro vX5 X5 hOX5 hgX5
         have belX5 : Below w2.heap.size w2 X5 := row_below belX4 belX4.size hOX4 hgX5
         obtain ⟨aX5, cX5, hvX5⟩ := oslice hOX5
         subst hvX5
         clear hgX5
         refine hKK.out _ _ ⟨(PP.out.pbox.next belX5).1, belX5⟩ (fun _ => ?_)
         clear hKK KK
         try dsimp only [getElem_toArray, getElem_cons_succ, getElem_cons_zero, Act.put]
         try simp only [setIfInBounds_toArray, set_cons_zero, set_cons_succ]
         refine wpAnyH_ready (rs := [13, 15]) (by kernel_rfl) (by simp) (AllReadyH.cons rfl (fun KK hKK => ?_) (AllReadyH.cons rfl (fun KK hKK => ?_) AllReadyH.nil))
         ·refine step_append_vals rfl (.tmp 42) (.tmp 46) 26 rfl w2.heap.size 23 i0 (.slice none 0 0) 1 24 Try.underlying26 HI0.out hz0 hz1 hz2 rfl (by decide) (.slice aX5 (N - K + 1) cX5) (N - K + 1) (us ++ [(.slice (some ⟨X2.heap.size, 0, none⟩) 0 0)]) rfl hOX5 (some ⟨pb, po, none⟩) K cp vs rfl (by rw [hvs.out, Nat.mul_one]) (hvsn.out _ (BW2.out.trans (belX5.mono BW2.out.size))) hvs1 (by unfold maxLen; omega) (by omega) belX5.size ?_
          intro vX6 X6 hOX6 hgX6
          have belX6 : Below w2.heap.size w2 X6 := row_below belX5 belX5.size hOX5 hgX6
          obtain ⟨aX6, cX6, hvX6⟩ := oslice hOX6
          subst hvX6
          clear hgX6
          refine hKK.out _ _ ⟨(PP.out.pbox.next belX6).1, belX6⟩ (fun _ => ?_)
          clear hKK KK
          try dsimp only [getElem_toArray, getElem_cons_succ, getElem_cons_zero, Act.put]
          try simp only [setIfInBounds_toArray, set_cons_zero, set_cons_succ]
          refine wpAnyH_take (i := 14) (v := ?_) rfl (by kernel_rfl) (by kernel_rfl) (by kernel_rfl) (fun _ _ _ h => h) (Or.inl ⟨by kernel_rfl, ?_⟩) ⟨(PP.out.pbox.next belX6).1, belX6⟩ ?_
          rotate_left
          ·(intro w0 z; (try dsimp only at z); obtain ⟨c0, hLB⟩ := z; go_simp; try with_reducible rfl)
          try dsimp only [getElem_toArray, getElem_cons_succ, getElem_cons_zero, Act.put]
          try simp only [setIfInBounds_toArray, set_cons_zero, set_cons_succ]
          refine wpAnyH_ready (rs := [15]) (by kernel_rfl) (by simp) (AllReadyH.cons rfl (fun KK hKK => ?_) AllReadyH.nil)
          go_simp
          obtain ⟨X7, hX7⟩ : ∃ X, X = X6.alloc (.cells #[.slice none 0 0] 28) := ⟨_, rfl⟩
          have belX7 : Below w2.heap.size w2 X7 := by rw [hX7]; exact belX6.alloc belX6.size _
          have hOX7 := hOX6.alloc (.cells #[.slice none 0 0] 28)
          rw [← hX7] at hOX7
          obtain ⟨bb, hbb⟩ : ∃ bb, bb = X6.heap.size := ⟨_, rfl⟩
          have hbbw : w2.heap.size ≤ bb := by rw [hbb]; exact belX6.size
          have hBX7 : Boxed X7 bb 28 (.slice none 0 0) := by rw [hX7, hbb]; exact Boxed.new _ _ _
          rw [← hbb]
          clear hbb
          rw [← hX7]
          clear hX7
          refine hKK.out _ _ ⟨(PP.out.pbox.next belX7).1, belX7⟩ (fun _ => ?_)
          clear hKK KK
          try dsimp only [getElem_toArray, getElem_cons_succ, getElem_cons_zero, Act.put]
          try simp only [setIfInBounds_toArray, set_cons_zero, set_cons_succ]
          refine wpAnyH_ready (rs := [16]) (by kernel_rfl) (by simp) (AllReadyH.cons rfl (fun KK hKK => ?_) AllReadyH.nil)
          have hcb := hBX7.cell
          have hfb := hBX7.frozen
          go_simp
          obtain ⟨X8, hX8⟩ : ∃ X, X = X7.setCell ⟨bb, 0, none⟩ (.slice aX6 (N - K + 1 + K) cX6) := ⟨_, rfl⟩
          have belX8 : Below w2.heap.size w2 X8 := by rw [hX8]; exact belX7.setCell (p := ⟨bb, 0, none⟩) hbbw _
          have hfin := turned_end (hO := hOX7) (hB := hBX7) (read_turned (g := X2.heap.size) husr.out hvsr.out) (BW2.out.trans (belX8.mono BW2.out.size)) hX8 (by rw [turned_length, HN0.out]; omega)
          rw [← hX8]
          clear hX8
          refine hKK.out _ _ ⟨(PP.out.pbox.next belX8).1, belX8⟩ (fun _ => ?_)
          clear hKK KK
          refine wpAnyH_done (by kernel_rfl) ?_ _
          try dsimp only [getElem_toArray, getElem_cons_succ, getElem_cons_zero, Act.put]
          try simp only [setIfInBounds_toArray, set_cons_zero, set_cons_succ]
          have hp := PP.out.next belX8
          go_wp2_with (fail)
          go_meet
          exact ⟨bb, _, rfl, hp, hfin.1, hfin.2⟩
         ·go_simp
          obtain ⟨X9, hX9⟩ : ∃ X, X = X5.alloc (.cells #[.slice none 0 0] 28) := ⟨_, rfl⟩
          have belX9 : Below w2.heap.size w2 X9 := by rw [hX9]; exact belX5.alloc belX5.size _
          have hOX9 := hOX5.alloc (.cells #[.slice none 0 0] 28)
          rw [← hX9] at hOX9
          obtain ⟨bb, hbb⟩ : ∃ bb, bb = X5.heap.size := ⟨_, rfl⟩
          have hbbw : w2.heap.size ≤ bb := by rw [hbb]; exact belX5.size
          have hBX9 : Boxed X9 bb 28 (.slice none 0 0) := by rw [hX9, hbb]; exact Boxed.new _ _ _
          rw [← hbb]
          clear hbb
          rw [← hX9]
          clear hX9
          refine hKK.out _ _ ⟨(PP.out.pbox.next belX9).1, belX9⟩ (fun _ => ?_)
          clear hKK KK
          try dsimp only [getElem_toArray, getElem_cons_succ, getElem_cons_zero, Act.put]
          try simp only [setIfInBounds_toArray, set_cons_zero, set_cons_succ]
          refine wpAnyH_ready (rs := [13]) (by kernel_rfl) (by simp) (AllReadyH.cons rfl (fun KK hKK => ?_) AllReadyH.nil)
          refine step_append_vals rfl (.tmp 42) (.tmp 46) 26 rfl w2.heap.size 23 i0 (.slice none 0 0) 1 24 Try.underlying26 HI0.out hz0 hz1 hz2 rfl (by decide) (.slice aX5 (N - K + 1) cX5) (N - K + 1) (us ++ [(.slice (some ⟨X2.heap.size, 0, none⟩) 0 0)]) rfl hOX9 (some ⟨pb, po, none⟩) K cp vs rfl (by rw [hvs.out, Nat.mul_one]) (hvsn.out _ (BW2.out.trans (belX9.mono BW2.out.size))) hvs1 (by unfold maxLen; omega) (by omega) belX9.size ?_
          intro vX10 X10 hOX10 hgX10
          have belX10 : Below w2.heap.size w2 X10 := row_below belX9 belX9.size hOX9 hgX10
          have hBX10 : Boxed X10 bb 28 (.slice none 0 0) := box_grown hBX9 hOX9 hgX10
          obtain ⟨aX10, cX10, hvX10⟩ := oslice hOX10
          subst hvX10
          clear hgX10
          refine hKK.out _ _ ⟨(PP.out.pbox.next belX10).1, belX10⟩ (fun _ => ?_)
          clear hKK KK
          try dsimp only [getElem_toArray, getElem_cons_succ, getElem_cons_zero, Act.put]
          try simp only [setIfInBounds_toArray, set_cons_zero, set_cons_succ]
          refine wpAnyH_take (i := 14) (v := ?_) rfl (by kernel_rfl) (by kernel_rfl) (by kernel_rfl) (fun _ _ _ h => h) (Or.inl ⟨by kernel_rfl, ?_⟩) ⟨(PP.out.pbox.next belX10).1, belX10⟩ ?_
          rotate_left
          ·(intro w0 z; (try dsimp only at z); obtain ⟨c0, hLB⟩ := z; go_simp; try with_reducible rfl)
          try dsimp only [getElem_toArray, getElem_cons_succ, getElem_cons_zero, Act.put]
          try simp only [setIfInBounds_toArray, set_cons_zero, set_cons_succ]
          refine wpAnyH_ready (rs := [16]) (by kernel_rfl) (by simp) (AllReadyH.cons rfl (fun KK hKK => ?_) AllReadyH.nil)
          have hcb := hBX10.cell
          have hfb := hBX10.frozen
          go_simp
          obtain ⟨X11, hX11⟩ : ∃ X, X = X10.setCell ⟨bb, 0, none⟩ (.slice aX10 (N - K + 1 + K) cX10) := ⟨_, rfl⟩
          have belX11 : Below w2.heap.size w2 X11 := by rw [hX11]; exact belX10.setCell (p := ⟨bb, 0, none⟩) hbbw _
          have hfin := turned_end (hO := hOX10) (hB := hBX10) (read_turned (g := X2.heap.size) husr.out hvsr.out) (BW2.out.trans (belX11.mono BW2.out.size)) hX11 (by rw [turned_length, HN0.out]; omega)
          rw [← hX11]
          clear hX11
          refine hKK.out _ _ ⟨(PP.out.pbox.next belX11).1, belX11⟩ (fun _ => ?_)
          clear hKK KK
          refine wpAnyH_done (by kernel_rfl) ?_ _
          try dsimp only [getElem_toArray, getElem_cons_succ, getElem_cons_zero, Act.put]
          try simp only [setIfInBounds_toArray, set_cons_zero, set_cons_succ]
          have hp := PP.out.next belX11
          go_wp2_with (fail)
          go_meet
          exact ⟨bb, _, rfl, hp, hfin.1, hfin.2⟩
        ·go_simp
         obtain ⟨X12, hX12⟩ : ∃ X, X = X4.alloc (.cells #[.slice none 0 0] 28) := ⟨_, rfl⟩
         have belX12 : Below w2.heap.size w2 X12 := by rw [hX12]; exact belX4.alloc belX4.size _
         have hOX12 := hOX4.alloc (.cells #[.slice none 0 0] 28)
         rw [← hX12] at hOX12
         have hCX12 : Boxed X12 b7 23 (.slice (some ⟨X2.heap.size, 0, none⟩) 0 0) := by rw [hX12]; exact hCX4.alloc _
         obtain ⟨bb, hbb⟩ : ∃ bb, bb = X4.heap.size := ⟨_, rfl⟩
         have hbbw : w2.heap.size ≤ bb := by rw [hbb]; exact belX4.size
         have hBX12 : Boxed X12 bb 28 (.slice none 0 0) := by rw [hX12, hbb]; exact Boxed.new _ _ _
         rw [← hbb]
         clear hbb
         rw [← hX12]
         clear hX12
         refine hKK.out _ _ ⟨(PP.out.pbox.next belX12).1, belX12⟩ (fun _ => ?_)
         clear hKK KK
         try dsimp only [getElem_toArray, getElem_cons_succ, getElem_cons_zero, Act.put]
         try simp only [setIfInBounds_toArray, set_cons_zero, set_cons_succ]
         refine wpAnyH_ready (rs := [8]) (by kernel_rfl) (by simp) (AllReadyH.cons rfl (fun KK hKK => ?_) AllReadyH.nil)
         refine step_append_vals rfl (.tmp 39) (.tmp 41) 26 rfl w2.heap.size 23 i0 (.slice none 0 0) 1 24 Try.underlying26 HI0.out hz0 hz1 hz2 rfl (by decide) (.slice aX2 (N - K) cX2) (N - K) us rfl hOX12 (some ⟨b7, 0, none⟩) 1 1 [(.slice (some ⟨X2.heap.size, 0, none⟩) 0 0)] rfl rfl (boxed_news hCX12) (fun u hu => by rw [List.mem_singleton.1 hu]; rfl) (by unfold maxLen; omega) (by omega) belX12.size ?_
         intro vX13 X13 hOX13 hgX13
         have belX13 : Below w2.heap.size w2 X13 := row_below belX12 belX12.size hOX12 hgX13
         have hBX13 : Boxed X13 bb 28 (.slice none 0 0) := box_grown hBX12 hOX12 hgX13
         obtain ⟨aX13, cX13, hvX13⟩ := oslice hOX13
         subst hvX13
         clear hgX13
         refine hKK.out _ _ ⟨(PP.out.pbox.next belX13).1, belX13⟩ (fun _ => ?_)
         clear hKK KK
         try dsimp only [getElem_toArray, getElem_cons_succ, getElem_cons_zero, Act.put]
         try simp only [setIfInBounds_toArray, set_cons_zero, set_cons_succ]
         refine wpAnyH_ready (rs := [13]) (by kernel_rfl) (by simp) (AllReadyH.cons rfl (fun KK hKK => ?_) AllReadyH.nil)
         refine step_append_vals rfl (.tmp 42) (.tmp 46) 26 rfl w2.heap.size 23 i0 (.slice none 0 0) 1 24 Try.underlying26 HI0.out hz0 hz1 hz2 rfl (by decide) (.slice aX13 (N - K + 1) cX13) (N - K + 1) (us ++ [(.slice (some ⟨X2.heap.size, 0, none⟩) 0 0)]) rfl hOX13 (some ⟨pb, po, none⟩) K cp vs rfl (by rw [hvs.out, Nat.mul_one]) (hvsn.out _ (BW2.out.trans (belX13.mono BW2.out.size))) hvs1 (by unfold maxLen; omega) (by omega) belX13.size ?_
         intro vX14 X14 hOX14 hgX14
         have belX14 : Below w2.heap.size w2 X14 := row_below belX13 belX13.size hOX13 hgX14
         have hBX14 : Boxed X14 bb 28 (.slice none 0 0) := box_grown hBX13 hOX13 hgX14
         obtain ⟨aX14, cX14, hvX14⟩ := oslice hOX14
         subst hvX14
         clear hgX14
         refine hKK.out _ _ ⟨(PP.out.pbox.next belX14).1, belX14⟩ (fun _ => ?_)
         clear hKK KK
         try dsimp only [getElem_toArray, getElem_cons_succ, getElem_cons_zero, Act.put]
         try simp only [setIfInBounds_toArray, set_cons_zero, set_cons_succ]
         refine wpAnyH_take (i := 14) (v := ?_) rfl (by kernel_rfl) (by kernel_rfl) (by kernel_rfl) (fun _ _ _ h => h) (Or.inl ⟨by kernel_rfl, ?_⟩) ⟨(PP.out.pbox.next belX14).1, belX14⟩ ?_
         rotate_left
         ·(intro w0 z; (try dsimp only at z); obtain ⟨c0, hLB⟩ := z; go_simp; try with_reducible rfl)
         try dsimp only [getElem_toArray, getElem_cons_succ, getElem_cons_zero, Act.put]
         try simp only [setIfInBounds_toArray, set_cons_zero, set_cons_succ]
         refine wpAnyH_ready (rs := [16]) (by kernel_rfl) (by simp) (AllReadyH.cons rfl (fun KK hKK => ?_) AllReadyH.nil)
         have hcb := hBX14.cell
         have hfb := hBX14.frozen
         go_simp
         obtain ⟨X15, hX15⟩ : ∃ X, X = X14.setCell ⟨bb, 0, none⟩ (.slice aX14 (N - K + 1 + K) cX14) := ⟨_, rfl⟩
         have belX15 : Below w2.heap.size w2 X15 := by rw [hX15]; exact belX14.setCell (p := ⟨bb, 0, none⟩) hbbw _
         have hfin := turned_end (hO := hOX14) (hB := hBX14) (read_turned (g := X2.heap.size) husr.out hvsr.out) (BW2.out.trans (belX15.mono BW2.out.size)) hX15 (by rw [turned_length, HN0.out]; omega)
         rw [← hX15]
         clear hX15
         refine hKK.out _ _ ⟨(PP.out.pbox.next belX15).1, belX15⟩ (fun _ => ?_)
         clear hKK KK
         refine wpAnyH_done (by kernel_rfl) ?_ _
         try dsimp only [getElem_toArray, getElem_cons_succ, getElem_cons_zero, Act.put]
         try simp only [setIfInBounds_toArray, set_cons_zero, set_cons_succ]
         have hp := PP.out.next belX15
         go_wp2_with (fail)
         go_meet
         exact ⟨bb, _, rfl, hp, hfin.1, hfin.2⟩
       ·go_simp
        obtain ⟨X16, hX16⟩ : ∃ X, X = X3.alloc (.cells #[.slice none 0 0] 28) := ⟨_, rfl⟩
        have belX16 : Below w2.heap.size w2 X16 := by rw [hX16]; exact belX3.alloc belX3.size _
        have hOX16 := hOX3.alloc (.cells #[.slice none 0 0] 28)
        rw [← hX16] at hOX16
        obtain ⟨bb, hbb⟩ : ∃ bb, bb = X3.heap.size := ⟨_, rfl⟩
        have hbbw : w2.heap.size ≤ bb := by rw [hbb]; exact belX3.size
        have hBX16 : Boxed X16 bb 28 (.slice none 0 0) := by rw [hX16, hbb]; exact Boxed.new _ _ _
        rw [← hbb]
        clear hbb
        rw [← hX16]
        clear hX16
        refine hKK.out _ _ ⟨(PP.out.pbox.next belX16).1, belX16⟩ (fun _ => ?_)
        clear hKK KK
        try dsimp only [getElem_toArray, getElem_cons_succ, getElem_cons_zero, Act.put]
        try simp only [setIfInBounds_toArray, set_cons_zero, set_cons_succ]
        refine wpAnyH_ready (rs := [7]) (by kernel_rfl) (by simp) (AllReadyH.cons rfl (fun KK hKK => ?_) AllReadyH.nil)
        go_simp
        obtain ⟨X17, hX17⟩ : ∃ X, X = X16.alloc (.cells #[(.slice (some ⟨X2.heap.size, 0, none⟩) 0 0)] 23) := ⟨_, rfl⟩
        have belX17 : Below w2.heap.size w2 X17 := by rw [hX17]; exact belX16.alloc belX16.size _
        have hOX17 := hOX16.alloc (.cells #[(.slice (some ⟨X2.heap.size, 0, none⟩) 0 0)] 23)
        rw [← hX17] at hOX17
        have hBX17 : Boxed X17 bb 28 (.slice none 0 0) := by rw [hX17]; exact hBX16.alloc _
        obtain ⟨b7, hb7⟩ : ∃ b7, b7 = X16.heap.size := ⟨_, rfl⟩
        have hCX17 : Boxed X17 b7 23 (.slice (some ⟨X2.heap.size, 0, none⟩) 0 0) := by rw [hX17, hb7]; exact Boxed.new _ _ _
        have hne7 : ((.slice aX2 (N - K) cX2) : Value).ownBlock ≠ some b7 := by rw [hb7]; exact own_fresh hOX16
        rw [← hb7]
        clear hb7
        rw [← hX17]
        clear hX17
        refine hKK.out _ _ ⟨(PP.out.pbox.next belX17).1, belX17⟩ (fun _ => ?_)
        clear hKK KK
        try dsimp only [getElem_toArray, getElem_cons_succ, getElem_cons_zero, Act.put]
        try simp only [setIfInBounds_toArray, set_cons_zero, set_cons_succ]
        refine wpAnyH_ready (rs := [8]) (by kernel_rfl) (by simp) (AllReadyH.cons rfl (fun KK hKK => ?_) AllReadyH.nil)
        refine step_append_vals rfl (.tmp 39) (.tmp 41) 26 rfl w2.heap.size 23 i0 (.slice none 0 0) 1 24 Try.underlying26 HI0.out hz0 hz1 hz2 rfl (by decide) (.slice aX2 (N - K) cX2) (N - K) us rfl hOX17 (some ⟨b7, 0, none⟩) 1 1 [(.slice (some ⟨X2.heap.size, 0, none⟩) 0 0)] rfl rfl (boxed_news hCX17) (fun u hu => by rw [List.mem_singleton.1 hu]; rfl) (by unfold maxLen; omega) (by omega) belX17.size ?_
        intro vX18 X18 hOX18 hgX18
        have belX18 : Below w2.heap.size w2 X18 := row_below belX17 belX17.size hOX17 hgX18
        have hBX18 : Boxed X18 bb 28 (.slice none 0 0) := box_grown hBX17 hOX17 hgX18
        obtain ⟨aX18, cX18, hvX18⟩ := oslice hOX18
        subst hvX18
        clear hgX18
        refine hKK.out _ _ ⟨(PP.out.pbox.next belX18).1, belX18⟩ (fun _ => ?_)
        clear hKK KK
        try dsimp only [getElem_toArray, getElem_cons_succ, getElem_cons_zero, Act.put]
        try simp only [setIfInBounds_toArray, set_cons_zero, set_cons_succ]
        refine wpAnyH_ready (rs := [13]) (by kernel_rfl) (by simp) (AllReadyH.cons rfl (fun KK hKK => ?_) AllReadyH.nil)
        refine step_append_vals rfl (.tmp 42) (.tmp 46) 26 rfl w2.heap.size 23 i0 (.slice none 0 0) 1 24 Try.underlying26 HI0.out hz0 hz1 hz2 rfl (by decide) (.slice aX18 (N - K + 1) cX18) (N - K + 1) (us ++ [(.slice (some ⟨X2.heap.size, 0, none⟩) 0 0)]) rfl hOX18 (some ⟨pb, po, none⟩) K cp vs rfl (by rw [hvs.out, Nat.mul_one]) (hvsn.out _ (BW2.out.trans (belX18.mono BW2.out.size))) hvs1 (by unfold maxLen; omega) (by omega) belX18.size ?_
        intro vX19 X19 hOX19 hgX19
        have belX19 : Below w2.heap.size w2 X19 := row_below belX18 belX18.size hOX18 hgX19
        have hBX19 : Boxed X19 bb 28 (.slice none 0 0) := box_grown hBX18 hOX18 hgX19
        obtain ⟨aX19, cX19, hvX19⟩ := oslice hOX19
        subst hvX19
        clear hgX19
        refine hKK.out _ _ ⟨(PP.out.pbox.next belX19).1, belX19⟩ (fun _ => ?_)
        clear hKK KK
        try dsimp only [getElem_toArray, getElem_cons_succ, getElem_cons_zero, Act.put]
        try simp only [setIfInBounds_toArray, set_cons_zero, set_cons_succ]
        refine wpAnyH_take (i := 14) (v := ?_) rfl (by kernel_rfl) (by kernel_rfl) (by kernel_rfl) (fun _ _ _ h => h) (Or.inl ⟨by kernel_rfl, ?_⟩) ⟨(PP.out.pbox.next belX19).1, belX19⟩ ?_
        rotate_left
        ·(intro w0 z; (try dsimp only at z); obtain ⟨c0, hLB⟩ := z; go_simp; try with_reducible rfl)
        try dsimp only [getElem_toArray, getElem_cons_succ, getElem_cons_zero, Act.put]
        try simp only [setIfInBounds_toArray, set_cons_zero, set_cons_succ]
        refine wpAnyH_ready (rs := [16]) (by kernel_rfl) (by simp) (AllReadyH.cons rfl (fun KK hKK => ?_) AllReadyH.nil)
        have hcb := hBX19.cell
        have hfb := hBX19.frozen
        go_simp
        obtain ⟨X20, hX20⟩ : ∃ X, X = X19.setCell ⟨bb, 0, none⟩ (.slice aX19 (N - K + 1 + K) cX19) := ⟨_, rfl⟩
        have belX20 : Below w2.heap.size w2 X20 := by rw [hX20]; exact belX19.setCell (p := ⟨bb, 0, none⟩) hbbw _
        have hfin := turned_end (hO := hOX19) (hB := hBX19) (read_turned (g := X2.heap.size) husr.out hvsr.out) (BW2.out.trans (belX20.mono BW2.out.size)) hX20 (by rw [turned_length, HN0.out]; omega)
        rw [← hX20]
        clear hX20
        refine hKK.out _ _ ⟨(PP.out.pbox.next belX20).1, belX20⟩ (fun _ => ?_)
        clear hKK KK
        refine wpAnyH_done (by kernel_rfl) ?_ _
        try dsimp only [getElem_toArray, getElem_cons_succ, getElem_cons_zero, Act.put]
        try simp only [setIfInBounds_toArray, set_cons_zero, set_cons_succ]
        have hp := PP.out.next belX20
        go_wp2_with (fail)
        go_meet
        exact ⟨bb, _, rfl, hp, hfin.1, hfin.2⟩
      ·go_simp
       obtain ⟨X21, hX21⟩ : ∃ X, X = X2.alloc (.cells #[.slice none 0 0] 28) := ⟨_, rfl⟩
       have belX21 : Below w2.heap.size w2 X21 := by rw [hX21]; exact belX2.alloc belX2.size _
       have hOX21 := hOX2.alloc (.cells #[.slice none 0 0] 28)
       rw [← hX21] at hOX21
       obtain ⟨bb, hbb⟩ : ∃ bb, bb = X2.heap.size := ⟨_, rfl⟩
       have hbbw : w2.heap.size ≤ bb := by rw [hbb]; exact belX2.size
       have hBX21 : Boxed X21 bb 28 (.slice none 0 0) := by rw [hX21, hbb]; exact Boxed.new _ _ _
       rw [← hbb]
       clear hbb
       rw [← hX21]
       clear hX21
       refine hKK.out _ _ ⟨(PP.out.pbox.next belX21).1, belX21⟩ (fun _ => ?_)
       clear hKK KK
       try dsimp only [getElem_toArray, getElem_cons_succ, getElem_cons_zero, Act.put]
       try simp only [setIfInBounds_toArray, set_cons_zero, set_cons_succ]
       refine wpAnyH_ready (rs := [6]) (by kernel_rfl) (by simp) (AllReadyH.cons rfl (fun KK hKK => ?_) AllReadyH.nil)
       go_simp
       obtain ⟨X22, hX22⟩ : ∃ X, X = X21.alloc (.cells #[] 3) := ⟨_, rfl⟩
       have belX22 : Below w2.heap.size w2 X22 := by rw [hX22]; exact belX21.alloc belX21.size _
       have hOX22 := hOX21.alloc (.cells #[] 3)
       rw [← hX22] at hOX22
       have hBX22 : Boxed X22 bb 28 (.slice none 0 0) := by rw [hX22]; exact hBX21.alloc _
       rw [← hX22]
       clear hX22
       refine hKK.out _ _ ⟨(PP.out.pbox.next belX22).1, belX22⟩ (fun _ => ?_)
       clear hKK KK
       try dsimp only [getElem_toArray, getElem_cons_succ, getElem_cons_zero, Act.put]
       try simp only [setIfInBounds_toArray, set_cons_zero, set_cons_succ]
       refine wpAnyH_ready (rs := [7]) (by kernel_rfl) (by simp) (AllReadyH.cons rfl (fun KK hKK => ?_) AllReadyH.nil)
       go_simp
       obtain ⟨X23, hX23⟩ : ∃ X, X = X22.alloc (.cells #[(.slice (some ⟨X21.heap.size, 0, none⟩) 0 0)] 23) := ⟨_, rfl⟩
       have belX23 : Below w2.heap.size w2 X23 := by rw [hX23]; exact belX22.alloc belX22.size _
       have hOX23 := hOX22.alloc (.cells #[(.slice (some ⟨X21.heap.size, 0, none⟩) 0 0)] 23)
       rw [← hX23] at hOX23
       have hBX23 : Boxed X23 bb 28 (.slice none 0 0) := by rw [hX23]; exact hBX22.alloc _
       obtain ⟨b7, hb7⟩ : ∃ b7, b7 = X22.heap.size := ⟨_, rfl⟩
       have hCX23 : Boxed X23 b7 23 (.slice (some ⟨X21.heap.size, 0, none⟩) 0 0) := by rw [hX23, hb7]; exact Boxed.new _ _ _
       have hne7 : ((.slice aX2 (N - K) cX2) : Value).ownBlock ≠ some b7 := by rw [hb7]; exact own_fresh hOX22
       rw [← hb7]
       clear hb7
       rw [← hX23]
       clear hX23
       refine hKK.out _ _ ⟨(PP.out.pbox.next belX23).1, belX23⟩ (fun _ => ?_)
       clear hKK KK
       try dsimp only [getElem_toArray, getElem_cons_succ, getElem_cons_zero, Act.put]
       try simp only [setIfInBounds_toArray, set_cons_zero, set_cons_succ]
       refine wpAnyH_ready (rs := [8]) (by kernel_rfl) (by simp) (AllReadyH.cons rfl (fun KK hKK => ?_) AllReadyH.nil)
       refine step_append_vals rfl (.tmp 39) (.tmp 41) 26 rfl w2.heap.size 23 i0 (.slice none 0 0) 1 24 Try.underlying26 HI0.out hz0 hz1 hz2 rfl (by decide) (.slice aX2 (N - K) cX2) (N - K) us rfl hOX23 (some ⟨b7, 0, none⟩) 1 1 [(.slice (some ⟨X21.heap.size, 0, none⟩) 0 0)] rfl rfl (boxed_news hCX23) (fun u hu => by rw [List.mem_singleton.1 hu]; rfl) (by unfold maxLen; omega) (by omega) belX23.size ?_
       intro vX24 X24 hOX24 hgX24
       have belX24 : Below w2.heap.size w2 X24 := row_below belX23 belX23.size hOX23 hgX24
       have hBX24 : Boxed X24 bb 28 (.slice none 0 0) := box_grown hBX23 hOX23 hgX24
       obtain ⟨aX24, cX24, hvX24⟩ := oslice hOX24
       subst hvX24
       clear hgX24
       refine hKK.out _ _ ⟨(PP.out.pbox.next belX24).1, belX24⟩ (fun _ => ?_)
       clear hKK KK
       try dsimp only [getElem_toArray, getElem_cons_succ, getElem_cons_zero, Act.put]
       try simp only [setIfInBounds_toArray, set_cons_zero, set_cons_succ]
       refine wpAnyH_ready (rs := [13]) (by kernel_rfl) (by simp) (AllReadyH.cons rfl (fun KK hKK => ?_) AllReadyH.nil)
       refine step_append_vals rfl (.tmp 42) (.tmp 46) 26 rfl w2.heap.size 23 i0 (.slice none 0 0) 1 24 Try.underlying26 HI0.out hz0 hz1 hz2 rfl (by decide) (.slice aX24 (N - K + 1) cX24) (N - K + 1) (us ++ [(.slice (some ⟨X21.heap.size, 0, none⟩) 0 0)]) rfl hOX24 (some ⟨pb, po, none⟩) K cp vs rfl (by rw [hvs.out, Nat.mul_one]) (hvsn.out _ (BW2.out.trans (belX24.mono BW2.out.size))) hvs1 (by unfold maxLen; omega) (by omega) belX24.size ?_
       intro vX25 X25 hOX25 hgX25
       have belX25 : Below w2.heap.size w2 X25 := row_below belX24 belX24.size hOX24 hgX25
       have hBX25 : Boxed X25 bb 28 (.slice none 0 0) := box_grown hBX24 hOX24 hgX25
       obtain ⟨aX25, cX25, hvX25⟩ := oslice hOX25
       subst hvX25
       clear hgX25
       refine hKK.out _ _ ⟨(PP.out.pbox.next belX25).1, belX25⟩ (fun _ => ?_)
       clear hKK KK
       try dsimp only [getElem_toArray, getElem_cons_succ, getElem_cons_zero, Act.put]
       try simp only [setIfInBounds_toArray, set_cons_zero, set_cons_succ]
       refine wpAnyH_take (i := 14) (v := ?_) rfl (by kernel_rfl) (by kernel_rfl) (by kernel_rfl) (fun _ _ _ h => h) (Or.inl ⟨by kernel_rfl, ?_⟩) ⟨(PP.out.pbox.next belX25).1, belX25⟩ ?_
       rotate_left
       ·(intro w0 z; (try dsimp only at z); obtain ⟨c0, hLB⟩ := z; go_simp; try with_reducible rfl)
       try dsimp only [getElem_toArray, getElem_cons_succ, getElem_cons_zero, Act.put]
       try simp only [setIfInBounds_toArray, set_cons_zero, set_cons_succ]
       refine wpAnyH_ready (rs := [16]) (by kernel_rfl) (by simp) (AllReadyH.cons rfl (fun KK hKK => ?_) AllReadyH.nil)
       have hcb := hBX25.cell
       have hfb := hBX25.frozen
       go_simp
       obtain ⟨X26, hX26⟩ : ∃ X, X = X25.setCell ⟨bb, 0, none⟩ (.slice aX25 (N - K + 1 + K) cX25) := ⟨_, rfl⟩
       have belX26 : Below w2.heap.size w2 X26 := by rw [hX26]; exact belX25.setCell (p := ⟨bb, 0, none⟩) hbbw _
       have hfin := turned_end (hO := hOX25) (hB := hBX25) (read_turned (g := X21.heap.size) husr.out hvsr.out) (BW2.out.trans (belX26.mono BW2.out.size)) hX26 (by rw [turned_length, HN0.out]; omega)
       rw [← hX26]
       clear hX26
       refine hKK.out _ _ ⟨(PP.out.pbox.next belX26).1, belX26⟩ (fun _ => ?_)
       clear hKK KK
       refine wpAnyH_done (by kernel_rfl) ?_ _
       try dsimp only [getElem_toArray, getElem_cons_succ, getElem_cons_zero, Act.put]
       try simp only [setIfInBounds_toArray, set_cons_zero, set_cons_succ]
       have hp := PP.out.next belX26
       go_wp2_with (fail)
       go_meet
       exact ⟨bb, _, rfl, hp, hfin.1, hfin.2⟩
     ·go_simp
      obtain ⟨X27, hX27⟩ : ∃ X, X = X1.alloc (.cells #[] 3) := ⟨_, rfl⟩
      have belX27 : Below w2.heap.size w2 X27 := by rw [hX27]; exact belX1.alloc belX1.size _
      have hOX27 := hOX1.alloc (.cells #[] 3)
      rw [← hX27] at hOX27
      rw [← hX27]
      clear hX27
      refine hKK.out _ _ ⟨(PP.out.pbox.next belX27).1, belX27⟩ (fun _ => ?_)
      clear hKK KK
      try dsimp only [getElem_toArray, getElem_cons_succ, getElem_cons_zero, Act.put]
      try simp only [setIfInBounds_toArray, set_cons_zero, set_cons_succ]
      refine wpAnyH_ready (rs := [5, 7, 15]) (by kernel_rfl) (by simp) (AllReadyH.cons rfl (fun KK hKK => ?_) (AllReadyH.cons rfl (fun KK hKK => ?_) (AllReadyH.cons rfl (fun KK hKK => ?_) AllReadyH.nil)))
      ·refine step_append_vals rfl (.tmp 34) (.tmp 38) 26 rfl w2.heap.size 23 i0 (.slice none 0 0) 1 24 Try.underlying26 HI0.out hz0 hz1 hz2 rfl (by decide) (.slice (some ⟨W4.heap.size, 0, none⟩) 0 0) 0 [] rfl hOX27 (some ⟨pb, po + K, none⟩) (N - K) (cp - K) us rfl (by rw [hus.out, Nat.mul_one]) (husn.out _ (BW2.out.trans (belX27.mono BW2.out.size))) hus1 (by unfold maxLen; omega) (by omega) belX27.size ?_
       intro vX28 X28 hOX28 hgX28
       rw [Nat.zero_add, List.nil_append] at hOX28
       have belX28 : Below w2.heap.size w2 X28 := row_below belX27 belX27.size hOX27 hgX28
       obtain ⟨aX28, cX28, hvX28⟩ := oslice hOX28
       subst hvX28
       clear hgX28
       refine hKK.out _ _ ⟨(PP.out.pbox.next belX28).1, belX28⟩ (fun _ => ?_)
       clear hKK KK
       try dsimp only [getElem_toArray, getElem_cons_succ, getElem_cons_zero, Act.put]
       try simp only [setIfInBounds_toArray, set_cons_zero, set_cons_succ]
       refine wpAnyH_ready (rs := [7, 15]) (by kernel_rfl) (by simp) (AllReadyH.cons rfl (fun KK hKK => ?_) (AllReadyH.cons rfl (fun KK hKK => ?_) AllReadyH.nil))
       ·go_simp
        obtain ⟨X29, hX29⟩ : ∃ X, X = X28.alloc (.cells #[(.slice (some ⟨X1.heap.size, 0, none⟩) 0 0)] 23) := ⟨_, rfl⟩
        have belX29 : Below w2.heap.size w2 X29 := by rw [hX29]; exact belX28.alloc belX28.size _
        have hOX29 := hOX28.alloc (.cells #[(.slice (some ⟨X1.heap.size, 0, none⟩) 0 0)] 23)
        rw [← hX29] at hOX29
        obtain ⟨b7, hb7⟩ : ∃ b7, b7 = X28.heap.size := ⟨_, rfl⟩
        have hCX29 : Boxed X29 b7 23 (.slice (some ⟨X1.heap.size, 0, none⟩) 0 0) := by rw [hX29, hb7]; exact Boxed.new _ _ _
        have hne7 : ((.slice aX28 (N - K) cX28) : Value).ownBlock ≠ some b7 := by rw [hb7]; exact own_fresh hOX28
        rw [← hb7]
        clear hb7
        rw [← hX29]
        clear hX29
        refine hKK.out _ _ ⟨(PP.out.pbox.next belX29).1, belX29⟩ (fun _ => ?_)
        clear hKK KK
        try dsimp only [getElem_toArray, getElem_cons_succ, getElem_cons_zero, Act.put]
        try simp only [setIfInBounds_toArray, set_cons_zero, set_cons_succ]
        refine wpAnyH_ready (rs := [8, 15]) (by kernel_rfl) (by simp) (AllReadyH.cons rfl (fun KK hKK => ?_) (AllReadyH.cons rfl (fun KK hKK => ?_) AllReadyH.nil))
        ·refine step_append_vals rfl (.tmp 39) (.tmp 41) 26 rfl w2.heap.size 23 i0 (.slice none 0 0) 1 24 Try.underlying26 HI0.out hz0 hz1 hz2 rfl (by decide) (.slice aX28 (N - K) cX28) (N - K) us rfl hOX29 (some ⟨b7, 0, none⟩) 1 1 [(.slice (some ⟨X1.heap.size, 0, none⟩) 0 0)] rfl rfl (boxed_news hCX29) (fun u hu => by rw [List.mem_singleton.1 hu]; rfl) (by unfold maxLen; omega) (by omega) belX29.size ?_
         intro vX30 X30 hOX30 hgX30
         have belX30 : Below w2.heap.size w2 X30 := row_below belX29 belX29.size hOX29 hgX30
         obtain ⟨aX30, cX30, hvX30⟩ := oslice hOX30
         subst hvX30
         clear hgX30
         refine hKK.out _ _ ⟨(PP.out.pbox.next belX30).1, belX30⟩ (fun _ => ?_)
         clear hKK KK
         try dsimp only [getElem_toArray, getElem_cons_succ, getElem_cons_zero, Act.put]
         try simp only [setIfInBounds_toArray, set_cons_zero, set_cons_succ]
         refine wpAnyH_ready (rs := [13, 15]) (by kernel_rfl) (by simp) (AllReadyH.cons rfl (fun KK hKK => ?_) (AllReadyH.cons rfl (fun KK hKK => ?_) AllReadyH.nil))
         ·refine step_append_vals rfl (.tmp 42) (.tmp 46) 26 rfl w2.heap.size 23 i0 (.slice none 0 0) 1 24 Try.underlying26 HI0.out hz0 hz1 hz2 rfl (by decide) (.slice aX30 (N - K + 1) cX30) (N - K + 1) (us ++ [(.slice (some ⟨X1.heap.size, 0, none⟩) 0 0)]) rfl hOX30 (some ⟨pb, po, none⟩) K cp vs rfl (by rw [hvs.out, Nat.mul_one]) (hvsn.out _ (BW2.out.trans (belX30.mono BW2.out.size))) hvs1 (by unfold maxLen; omega) (by omega) belX30.size ?_
          intro vX31 X31 hOX31 hgX31
          have belX31 : Below w2.heap.size w2 X31 := row_below belX30 belX30.size hOX30 hgX31
          obtain ⟨aX31, cX31, hvX31⟩ := oslice hOX31
          subst hvX31
          clear hgX31
          refine hKK.out _ _ ⟨(PP.out.pbox.next belX31).1, belX31⟩ (fun _ => ?_)
          clear hKK KK
          try dsimp only [getElem_toArray, getElem_cons_succ, getElem_cons_zero, Act.put]
          try simp only [setIfInBounds_toArray, set_cons_zero, set_cons_succ]
          refine wpAnyH_take (i := 14) (v := ?_) rfl (by kernel_rfl) (by kernel_rfl) (by kernel_rfl) (fun _ _ _ h => h) (Or.inl ⟨by kernel_rfl, ?_⟩) ⟨(PP.out.pbox.next belX31).1, belX31⟩ ?_
          rotate_left
          ·(intro w0 z; (try dsimp only at z); obtain ⟨c0, hLB⟩ := z; go_simp; try with_reducible rfl)
          try dsimp only [getElem_toArray, getElem_cons_succ, getElem_cons_zero, Act.put]
          try simp only [setIfInBounds_toArray, set_cons_zero, set_cons_succ]
          refine wpAnyH_ready (rs := [15]) (by kernel_rfl) (by simp) (AllReadyH.cons rfl (fun KK hKK => ?_) AllReadyH.nil)
          go_simp
          obtain ⟨X32, hX32⟩ : ∃ X, X = X31.alloc (.cells #[.slice none 0 0] 28) := ⟨_, rfl⟩
          have belX32 : Below w2.heap.size w2 X32 := by rw [hX32]; exact belX31.alloc belX31.size _
          have hOX32 := hOX31.alloc (.cells #[.slice none 0 0] 28)
          rw [← hX32] at hOX32
          obtain ⟨bb, hbb⟩ : ∃ bb, bb = X31.heap.size := ⟨_, rfl⟩
          have hbbw : w2.heap.size ≤ bb := by rw [hbb]; exact belX31.size
          have hBX32 : Boxed X32 bb 28 (.slice none 0 0) := by rw [hX32, hbb]; exact Boxed.new _ _ _
          rw [← hbb]
          clear hbb
          rw [← hX32]
          clear hX32
          refine hKK.out _ _ ⟨(PP.out.pbox.next belX32).1, belX32⟩ (fun _ => ?_)
          clear hKK KK
          try dsimp only [getElem_toArray, getElem_cons_succ, getElem_cons_zero, Act.put]
          try simp only [setIfInBounds_toArray, set_cons_zero, set_cons_succ]
          refine wpAnyH_ready (rs := [16]) (by kernel_rfl) (by simp) (AllReadyH.cons rfl (fun KK hKK => ?_) AllReadyH.nil)
          have hcb := hBX32.cell
          have hfb := hBX32.frozen
          go_simp
          obtain ⟨X33, hX33⟩ : ∃ X, X = X32.setCell ⟨bb, 0, none⟩ (.slice aX31 (N - K + 1 + K) cX31) := ⟨_, rfl⟩
          have belX33 : Below w2.heap.size w2 X33 := by rw [hX33]; exact belX32.setCell (p := ⟨bb, 0, none⟩) hbbw _
          have hfin := turned_end (hO := hOX32) (hB := hBX32) (read_turned (g := X1.heap.size) husr.out hvsr.out) (BW2.out.trans (belX33.mono BW2.out.size)) hX33 (by rw [turned_length, HN0.out]; omega)
          rw [← hX33]
          clear hX33
          refine hKK.out _ _ ⟨(PP.out.pbox.next belX33).1, belX33⟩ (fun _ => ?_)
          clear hKK KK
          refine wpAnyH_done (by kernel_rfl) ?_ _
          try dsimp only [getElem_toArray, getElem_cons_succ, getElem_cons_zero, Act.put]
          try simp only [setIfInBounds_toArray, set_cons_zero, set_cons_succ]
          have hp := PP.out.next belX33
          go_wp2_with (fail)
          go_meet
          exact ⟨bb, _, rfl, hp, hfin.1, hfin.2⟩
         ·go_simp
          obtain ⟨X34, hX34⟩ : ∃ X, X = X30.alloc (.cells #[.slice none 0 0] 28) := ⟨_, rfl⟩
          have belX34 : Below w2.heap.size w2 X34 := by rw [hX34]; exact belX30.alloc belX30.size _
          have hOX34 := hOX30.alloc (.cells #[.slice none 0 0] 28)
          rw [← hX34] at hOX34
          obtain ⟨bb, hbb⟩ : ∃ bb, bb = X30.heap.size := ⟨_, rfl⟩
          have hbbw : w2.heap.size ≤ bb := by rw [hbb]; exact belX30.size
          have hBX34 : Boxed X34 bb 28 (.slice none 0 0) := by rw [hX34, hbb]; exact Boxed.new _ _ _
          rw [← hbb]
          clear hbb
          rw [← hX34]
          clear hX34
          refine hKK.out _ _ ⟨(PP.out.pbox.next belX34).1, belX34⟩ (fun _ => ?_)
          clear hKK KK
          try dsimp only [getElem_toArray, getElem_cons_succ, getElem_cons_zero, Act.put]
          try simp only [setIfInBounds_toArray, set_cons_zero, set_cons_succ]
          refine wpAnyH_ready (rs := [13]) (by kernel_rfl) (by simp) (AllReadyH.cons rfl (fun KK hKK => ?_) AllReadyH.nil)
          refine step_append_vals rfl (.tmp 42) (.tmp 46) 26 rfl w2.heap.size 23 i0 (.slice none 0 0) 1 24 Try.underlying26 HI0.out hz0 hz1 hz2 rfl (by decide) (.slice aX30 (N - K + 1) cX30) (N - K + 1) (us ++ [(.slice (some ⟨X1.heap.size, 0, none⟩) 0 0)]) rfl hOX34 (some ⟨pb, po, none⟩) K cp vs rfl (by rw [hvs.out, Nat.mul_one]) (hvsn.out _ (BW2.out.trans (belX34.mono BW2.out.size))) hvs1 (by unfold maxLen; omega) (by omega) belX34.size ?_
          intro vX35 X35 hOX35 hgX35
          have belX35 : Below w2.heap.size w2 X35 := row_below belX34 belX34.size hOX34 hgX35
          have hBX35 : Boxed X35 bb 28 (.slice none 0 0) := box_grown hBX34 hOX34 hgX35
          obtain ⟨aX35, cX35, hvX35⟩ := oslice hOX35
          subst hvX35
          clear hgX35
          refine hKK.out _ _ ⟨(PP.out.pbox.next belX35).1, belX35⟩ (fun _ => ?_)
          clear hKK KK
          try dsimp only [getElem_toArray, getElem_cons_succ, getElem_cons_zero, Act.put]
          try simp only [setIfInBounds_toArray, set_cons_zero, set_cons_succ]
          refine wpAnyH_take (i := 14) (v := ?_) rfl (by kernel_rfl) (by kernel_rfl) (by kernel_rfl) (fun _ _ _ h => h) (Or.inl ⟨by kernel_rfl, ?_⟩) ⟨(PP.out.pbox.next belX35).1, belX35⟩ ?_
          rotate_left
          ·(intro w0 z; (try dsimp only at z); obtain ⟨c0, hLB⟩ := z; go_simp; try with_reducible rfl)
          try dsimp only [getElem_toArray, getElem_cons_succ, getElem_cons_zero, Act.put]
          try simp only [setIfInBounds_toArray, set_cons_zero, set_cons_succ]
          refine wpAnyH_ready (rs := [16]) (by kernel_rfl) (by simp) (AllReadyH.cons rfl (fun KK hKK => ?_) AllReadyH.nil)
          have hcb := hBX35.cell
          have hfb := hBX35.frozen
          go_simp
          obtain ⟨X36, hX36⟩ : ∃ X, X = X35.setCell ⟨bb, 0, none⟩ (.slice aX35 (N - K + 1 + K) cX35) := ⟨_, rfl⟩
          have belX36 : Below w2.heap.size w2 X36 := by rw [hX36]; exact belX35.setCell (p := ⟨bb, 0, none⟩) hbbw _
          have hfin := turned_end (hO := hOX35) (hB := hBX35) (read_turned (g := X1.heap.size) husr.out hvsr.out) (BW2.out.trans (belX36.mono BW2.out.size)) hX36 (by rw [turned_length, HN0.out]; omega)
          rw [← hX36]
          clear hX36
          refine hKK.out _ _ ⟨(PP.out.pbox.next belX36).1, belX36⟩ (fun _ => ?_)
          clear hKK KK
          refine wpAnyH_done (by kernel_rfl) ?_ _
          try dsimp only [getElem_toArray, getElem_cons_succ, getElem_cons_zero, Act.put]
          try simp only [setIfInBounds_toArray, set_cons_zero, set_cons_succ]
          have hp := PP.out.next belX36
          go_wp2_with (fail)
          go_meet
          exact ⟨bb, _, rfl, hp, hfin.1, hfin.2⟩
        ·go_simp
         obtain ⟨X37, hX37⟩ : ∃ X, X = X29.alloc (.cells #[.slice none 0 0] 28) := ⟨_, rfl⟩
         have belX37 : Below w2.heap.size w2 X37 := by rw [hX37]; exact belX29.alloc belX29.size _
         have hOX37 := hOX29.alloc (.cells #[.slice none 0 0] 28)
         rw [← hX37] at hOX37
         have hCX37 : Boxed X37 b7 23 (.slice (some ⟨X1.heap.size, 0, none⟩) 0 0) := by rw [hX37]; exact hCX29.alloc _
         obtain ⟨bb, hbb⟩ : ∃ bb, bb = X29.heap.size := ⟨_, rfl⟩
         have hbbw : w2.heap.size ≤ bb := by rw [hbb]; exact belX29.size
         have hBX37 : Boxed X37 bb 28 (.slice none 0 0) := by rw [hX37, hbb]; exact Boxed.new _ _ _
         rw [← hbb]
         clear hbb
         rw [← hX37]
         clear hX37
         refine hKK.out _ _ ⟨(PP.out.pbox.next belX37).1, belX37⟩ (fun _ => ?_)
         clear hKK KK
         try dsimp only [getElem_toArray, getElem_cons_succ, getElem_cons_zero, Act.put]
         try simp only [setIfInBounds_toArray, set_cons_zero, set_cons_succ]
         refine wpAnyH_ready (rs := [8]) (by kernel_rfl) (by simp) (AllReadyH.cons rfl (fun KK hKK => ?_) AllReadyH.nil)
         refine step_append_vals rfl (.tmp 39) (.tmp 41) 26 rfl w2.heap.size 23 i0 (.slice none 0 0) 1 24 Try.underlying26 HI0.out hz0 hz1 hz2 rfl (by decide) (.slice aX28 (N - K) cX28) (N - K) us rfl hOX37 (some ⟨b7, 0, none⟩) 1 1 [(.slice (some ⟨X1.heap.size, 0, none⟩) 0 0)] rfl rfl (boxed_news hCX37) (fun u hu => by rw [List.mem_singleton.1 hu]; rfl) (by unfold maxLen; omega) (by omega) belX37.size ?_
         intro vX38 X38 hOX38 hgX38
         have belX38 : Below w2.heap.size w2 X38 := row_below belX37 belX37.size hOX37 hgX38
         have hBX38 : Boxed X38 bb 28 (.slice none 0 0) := box_grown hBX37 hOX37 hgX38
         obtain ⟨aX38, cX38, hvX38⟩ := oslice hOX38
         subst hvX38
         clear hgX38
         refine hKK.out _ _ ⟨(PP.out.pbox.next belX38).1, belX38⟩ (fun _ => ?_)
         clear hKK KK
         try dsimp only [getElem_toArray, getElem_cons_succ, getElem_cons_zero, Act.put]
         try simp only [setIfInBounds_toArray, set_cons_zero, set_cons_succ]
         refine wpAnyH_ready (rs := [13]) (by kernel_rfl) (by simp) (AllReadyH.cons rfl (fun KK hKK => ?_) AllReadyH.nil)
         refine step_append_vals rfl (.tmp 42) (.tmp 46) 26 rfl w2.heap.size 23 i0 (.slice none 0 0) 1 24 Try.underlying26 HI0.out hz0 hz1 hz2 rfl (by decide) (.slice aX38 (N - K + 1) cX38) (N - K + 1) (us ++ [(.slice (some ⟨X1.heap.size, 0, none⟩) 0 0)]) rfl hOX38 (some ⟨pb, po, none⟩) K cp vs rfl (by rw [hvs.out, Nat.mul_one]) (hvsn.out _ (BW2.out.trans (belX38.mono BW2.out.size))) hvs1 (by unfold maxLen; omega) (by omega) belX38.size ?_
         intro vX39 X39 hOX39 hgX39
         have belX39 : Below w2.heap.size w2 X39 := row_below belX38 belX38.size hOX38 hgX39
         have hBX39 : Boxed X39 bb 28 (.slice none 0 0) := box_grown hBX38 hOX38 hgX39
         obtain ⟨aX39, cX39, hvX39⟩ := oslice hOX39
         subst hvX39
         clear hgX39
         refine hKK.out _ _ ⟨(PP.out.pbox.next belX39).1, belX39⟩ (fun _ => ?_)
         clear hKK KK
         try dsimp only [getElem_toArray, getElem_cons_succ, getElem_cons_zero, Act.put]
         try simp only [setIfInBounds_toArray, set_cons_zero, set_cons_succ]
         refine wpAnyH_take (i := 14) (v := ?_) rfl (by kernel_rfl) (by kernel_rfl) (by kernel_rfl) (fun _ _ _ h => h) (Or.inl ⟨by kernel_rfl, ?_⟩) ⟨(PP.out.pbox.next belX39).1, belX39⟩ ?_
         rotate_left
         ·(intro w0 z; (try dsimp only at z); obtain ⟨c0, hLB⟩ := z; go_simp; try with_reducible rfl)
         try dsimp only [getElem_toArray, getElem_cons_succ, getElem_cons_zero, Act.put]
         try simp only [setIfInBounds_toArray, set_cons_zero, set_cons_succ]
         refine wpAnyH_ready (rs := [16]) (by kernel_rfl) (by simp) (AllReadyH.cons rfl (fun KK hKK => ?_) AllReadyH.nil)
         have hcb := hBX39.cell
         have hfb := hBX39.frozen
         go_simp
         obtain ⟨X40, hX40⟩ : ∃ X, X = X39.setCell ⟨bb, 0, none⟩ (.slice aX39 (N - K + 1 + K) cX39) := ⟨_, rfl⟩
         have belX40 : Below w2.heap.size w2 X40 := by rw [hX40]; exact belX39.setCell (p := ⟨bb, 0, none⟩) hbbw _
         have hfin := turned_end (hO := hOX39) (hB := hBX39) (read_turned (g := X1.heap.size) husr.out hvsr.out) (BW2.out.trans (belX40.mono BW2.out.size)) hX40 (by rw [turned_length, HN0.out]; omega)
         rw [← hX40]
         clear hX40
         refine hKK.out _ _ ⟨(PP.out.pbox.next belX40).1, belX40⟩ (fun _ => ?_)
         clear hKK KK
         refine wpAnyH_done (by kernel_rfl) ?_ _
         try dsimp only [getElem_toArray, getElem_cons_succ, getElem_cons_zero, Act.put]
         try simp only [setIfInBounds_toArray, set_cons_zero, set_cons_succ]
         have hp := PP.out.next belX40
         go_wp2_with (fail)
         go_meet
         exact ⟨bb, _, rfl, hp, hfin.1, hfin.2⟩
       ·go_simp
        obtain ⟨X41, hX41⟩ : ∃ X, X = X28.alloc (.cells #[.slice none 0 0] 28) := ⟨_, rfl⟩
        have belX41 : Below w2.heap.size w2 X41 := by rw [hX41]; exact belX28.alloc belX28.size _
        have hOX41 := hOX28.alloc (.cells #[.slice none 0 0] 28)
        rw [← hX41] at hOX41
        obtain ⟨bb, hbb⟩ : ∃ bb, bb = X28.heap.size := ⟨_, rfl⟩
        have hbbw : w2.heap.size ≤ bb := by rw [hbb]; exact belX28.size
        have hBX41 : Boxed X41 bb 28 (.slice none 0 0) := by rw [hX41, hbb]; exact Boxed.new _ _ _
        rw [← hbb]
        clear hbb
        rw [← hX41]
        clear hX41
        refine hKK.out _ _ ⟨(PP.out.pbox.next belX41).1, belX41⟩ (fun _ => ?_)
        clear hKK KK
        try dsimp only [getElem_toArray, getElem_cons_succ, getElem_cons_zero, Act.put]
        try simp only [setIfInBounds_toArray, set_cons_zero, set_cons_succ]
        refine wpAnyH_ready (rs := [7]) (by kernel_rfl) (by simp) (AllReadyH.cons rfl (fun KK hKK => ?_) AllReadyH.nil)
        go_simp
        obtain ⟨X42, hX42⟩ : ∃ X, X = X41.alloc (.cells #[(.slice (some ⟨X1.heap.size, 0, none⟩) 0 0)] 23) := ⟨_, rfl⟩
        have belX42 : Below w2.heap.size w2 X42 := by rw [hX42]; exact belX41.alloc belX41.size _
        have hOX42 := hOX41.alloc (.cells #[(.slice (some ⟨X1.heap.size, 0, none⟩) 0 0)] 23)
        rw [← hX42] at hOX42
        have hBX42 : Boxed X42 bb 28 (.slice none 0 0) := by rw [hX42]; exact hBX41.alloc _
        obtain ⟨b7, hb7⟩ : ∃ b7, b7 = X41.heap.size := ⟨_, rfl⟩
        have hCX42 : Boxed X42 b7 23 (.slice (some ⟨X1.heap.size, 0, none⟩) 0 0) := by rw [hX42, hb7]; exact Boxed.new _ _ _
        have hne7 : ((.slice aX28 (N - K) cX28) : Value).ownBlock ≠ some b7 := by rw [hb7]; exact own_fresh hOX41
        rw [← hb7]
        clear hb7
        rw [← hX42]
        clear hX42
        refine hKK.out _ _ ⟨(PP.out.pbox.next belX42).1, belX42⟩ (fun _ => ?_)
        clear hKK KK
        try dsimp only [getElem_toArray, getElem_cons_succ, getElem_cons_zero, Act.put]
        try simp only [setIfInBounds_toArray, set_cons_zero, set_cons_succ]
        refine wpAnyH_ready (rs := [8]) (by kernel_rfl) (by simp) (AllReadyH.cons rfl (fun KK hKK => ?_) AllReadyH.nil)
        refine step_append_vals rfl (.tmp 39) (.tmp 41) 26 rfl w2.heap.size 23 i0 (.slice none 0 0) 1 24 Try.underlying26 HI0.out hz0 hz1 hz2 rfl (by decide) (.slice aX28 (N - K) cX28) (N - K) us rfl hOX42 (some ⟨b7, 0, none⟩) 1 1 [(.slice (some ⟨X1.heap.size, 0, none⟩) 0 0)] rfl rfl (boxed_news hCX42) (fun u hu => by rw [List.mem_singleton.1 hu]; rfl) (by unfold maxLen; omega) (by omega) belX42.size ?_
        intro vX43 X43 hOX43 hgX43
        have belX43 : Below w2.heap.size w2 X43 := row_below belX42 belX42.size hOX42 hgX43
        have hBX43 : Boxed X43 bb 28 (.slice none 0 0) := box_grown hBX42 hOX42 hgX43
        obtain ⟨aX43, cX43, hvX43⟩ := oslice hOX43
        subst hvX43
        clear hgX43
        refine hKK.out _ _ ⟨(PP.out.pbox.next belX43).1, belX43⟩ (fun _ => ?_)
        clear hKK KK
        try dsimp only [getElem_toArray, getElem_cons_succ, getElem_cons_zero, Act.put]
        try simp only [setIfInBounds_toArray, set_cons_zero, set_cons_succ]
        refine wpAnyH_ready (rs := [13]) (by kernel_rfl) (by simp) (AllReadyH.cons rfl (fun KK hKK => ?_) AllReadyH.nil)
        refine step_append_vals rfl (.tmp 42) (.tmp 46) 26 rfl w2.heap.size 23 i0 (.slice none 0 0) 1 24 Try.underlying26 HI0.out hz0 hz1 hz2 rfl (by decide) (.slice aX43 (N - K + 1) cX43) (N - K + 1) (us ++ [(.slice (some ⟨X1.heap.size, 0, none⟩) 0 0)]) rfl hOX43 (some ⟨pb, po, none⟩) K cp vs rfl (by rw [hvs.out, Nat.mul_one]) (hvsn.out _ (BW2.out.trans (belX43.mono BW2.out.size))) hvs1 (by unfold maxLen; omega) (by omega) belX43.size ?_
        intro vX44 X44 hOX44 hgX44
        have belX44 : Below w2.heap.size w2 X44 := row_below belX43 belX43.size hOX43 hgX44
        have hBX44 : Boxed X44 bb 28 (.slice none 0 0) := box_grown hBX43 hOX43 hgX44
        obtain ⟨aX44, cX44, hvX44⟩ := oslice hOX44
        subst hvX44
        clear hgX44
        refine hKK.out _ _ ⟨(PP.out.pbox.next belX44).1, belX44⟩ (fun _ => ?_)
        clear hKK KK
        try dsimp only [getElem_toArray, getElem_cons_succ, getElem_cons_zero, Act.put]
        try simp only [setIfInBounds_toArray, set_cons_zero, set_cons_succ]
        refine wpAnyH_take (i := 14) (v := ?_) rfl (by kernel_rfl) (by kernel_rfl) (by kernel_rfl) (fun _ _ _ h => h) (Or.inl ⟨by kernel_rfl, ?_⟩) ⟨(PP.out.pbox.next belX44).1, belX44⟩ ?_
        rotate_left
        ·(intro w0 z; (try dsimp only at z); obtain ⟨c0, hLB⟩ := z; go_simp; try with_reducible rfl)
        try dsimp only [getElem_toArray, getElem_cons_succ, getElem_cons_zero, Act.put]
        try simp only [setIfInBounds_toArray, set_cons_zero, set_cons_succ]
        refine wpAnyH_ready (rs := [16]) (by kernel_rfl) (by simp) (AllReadyH.cons rfl (fun KK hKK => ?_) AllReadyH.nil)
        have hcb := hBX44.cell
        have hfb := hBX44.frozen
        go_simp
        obtain ⟨X45, hX45⟩ : ∃ X, X = X44.setCell ⟨bb, 0, none⟩ (.slice aX44 (N - K + 1 + K) cX44) := ⟨_, rfl⟩
        have belX45 : Below w2.heap.size w2 X45 := by rw [hX45]; exact belX44.setCell (p := ⟨bb, 0, none⟩) hbbw _
        have hfin := turned_end (hO := hOX44) (hB := hBX44) (read_turned (g := X1.heap.size) husr.out hvsr.out) (BW2.out.trans (belX45.mono BW2.out.size)) hX45 (by rw [turned_length, HN0.out]; omega)
        rw [← hX45]
        clear hX45
        refine hKK.out _ _ ⟨(PP.out.pbox.next belX45).1, belX45⟩ (fun _ => ?_)
        clear hKK KK
        refine wpAnyH_done (by kernel_rfl) ?_ _
        try dsimp only [getElem_toArray, getElem_cons_succ, getElem_cons_zero, Act.put]
        try simp only [setIfInBounds_toArray, set_cons_zero, set_cons_succ]
        have hp := PP.out.next belX45
        go_wp2_with (fail)
        go_meet
        exact ⟨bb, _, rfl, hp, hfin.1, hfin.2⟩
      ·go_simp
       obtain ⟨X46, hX46⟩ : ∃ X, X = X27.alloc (.cells #[(.slice (some ⟨X1.heap.size, 0, none⟩) 0 0)] 23) := ⟨_, rfl⟩
       have belX46 : Below w2.heap.size w2 X46 := by rw [hX46]; exact belX27.alloc belX27.size _
       have hOX46 := hOX27.alloc (.cells #[(.slice (some ⟨X1.heap.size, 0, none⟩) 0 0)] 23)
       rw [← hX46] at hOX46
       obtain ⟨b7, hb7⟩ : ∃ b7, b7 = X27.heap.size := ⟨_, rfl⟩
       have hCX46 : Boxed X46 b7 23 (.slice (some ⟨X1.heap.size, 0, none⟩) 0 0) := by rw [hX46, hb7]; exact Boxed.new _ _ _
       have hne7 : ((.slice (some ⟨W4.heap.size, 0, none⟩) 0 0) : Value).ownBlock ≠ some b7 := by rw [hb7]; exact own_fresh hOX27
       rw [← hb7]
       clear hb7
       rw [← hX46]
       clear hX46
       refine hKK.out _ _ ⟨(PP.out.pbox.next belX46).1, belX46⟩ (fun _ => ?_)
       clear hKK KK
       try dsimp only [getElem_toArray, getElem_cons_succ, getElem_cons_zero, Act.put]
       try simp only [setIfInBounds_toArray, set_cons_zero, set_cons_succ]
       refine wpAnyH_ready (rs := [5, 15]) (by kernel_rfl) (by simp) (AllReadyH.cons rfl (fun KK hKK => ?_) (AllReadyH.cons rfl (fun KK hKK => ?_) AllReadyH.nil))
       ·refine step_append_vals rfl (.tmp 34) (.tmp 38) 26 rfl w2.heap.size 23 i0 (.slice none 0 0) 1 24 Try.underlying26 HI0.out hz0 hz1 hz2 rfl (by decide) (.slice (some ⟨W4.heap.size, 0, none⟩) 0 0) 0 [] rfl hOX46 (some ⟨pb, po + K, none⟩) (N - K) (cp - K) us rfl (by rw [hus.out, Nat.mul_one]) (husn.out _ (BW2.out.trans (belX46.mono BW2.out.size))) hus1 (by unfold maxLen; omega) (by omega) belX46.size ?_
        intro vX47 X47 hOX47 hgX47
        rw [Nat.zero_add, List.nil_append] at hOX47
        have belX47 : Below w2.heap.size w2 X47 := row_below belX46 belX46.size hOX46 hgX47
        have hCX47 := boxed_keep hCX46 hne7 hgX47
        obtain ⟨aX47, cX47, hvX47⟩ := oslice hOX47
        subst hvX47
        clear hgX47
        refine hKK.out _ _ ⟨(PP.out.pbox.next belX47).1, belX47⟩ (fun _ => ?_)
        clear hKK KK
        try dsimp only [getElem_toArray, getElem_cons_succ, getElem_cons_zero, Act.put]
        try simp only [setIfInBounds_toArray, set_cons_zero, set_cons_succ]
        refine wpAnyH_ready (rs := [8, 15]) (by kernel_rfl) (by simp) (AllReadyH.cons rfl (fun KK hKK => ?_) (AllReadyH.cons rfl (fun KK hKK => ?_) AllReadyH.nil))
        ·refine step_append_vals rfl (.tmp 39) (.tmp 41) 26 rfl w2.heap.size 23 i0 (.slice none 0 0) 1 24 Try.underlying26 HI0.out hz0 hz1 hz2 rfl (by decide) (.slice aX47 (N - K) cX47) (N - K) us rfl hOX47 (some ⟨b7, 0, none⟩) 1 1 [(.slice (some ⟨X1.heap.size, 0, none⟩) 0 0)] rfl rfl (boxed_news hCX47) (fun u hu => by rw [List.mem_singleton.1 hu]; rfl) (by unfold maxLen; omega) (by omega) belX47.size ?_
         intro vX48 X48 hOX48 hgX48
         have belX48 : Below w2.heap.size w2 X48 := row_below belX47 belX47.size hOX47 hgX48
         obtain ⟨aX48, cX48, hvX48⟩ := oslice hOX48
         subst hvX48
         clear hgX48
         refine hKK.out _ _ ⟨(PP.out.pbox.next belX48).1, belX48⟩ (fun _ => ?_)
         clear hKK KK
         try dsimp only [getElem_toArray, getElem_cons_succ, getElem_cons_zero, Act.put]
         try simp only [setIfInBounds_toArray, set_cons_zero, set_cons_succ]
         refine wpAnyH_ready (rs := [13, 15]) (by kernel_rfl) (by simp) (AllReadyH.cons rfl (fun KK hKK => ?_) (AllReadyH.cons rfl (fun KK hKK => ?_) AllReadyH.nil))
         ·refine step_append_vals rfl (.tmp 42) (.tmp 46) 26 rfl w2.heap.size 23 i0 (.slice none 0 0) 1 24 Try.underlying26 HI0.out hz0 hz1 hz2 rfl (by decide) (.slice aX48 (N - K + 1) cX48) (N - K + 1) (us ++ [(.slice (some ⟨X1.heap.size, 0, none⟩) 0 0)]) rfl hOX48 (some ⟨pb, po, none⟩) K cp vs rfl (by rw [hvs.out, Nat.mul_one]) (hvsn.out _ (BW2.out.trans (belX48.mono BW2.out.size))) hvs1 (by unfold maxLen; omega) (by omega) belX48.size ?_
          intro vX49 X49 hOX49 hgX49
          have belX49 : Below w2.heap.size w2 X49 := row_below belX48 belX48.size hOX48 hgX49
          obtain ⟨aX49, cX49, hvX49⟩ := oslice hOX49
          subst hvX49
          clear hgX49
          refine hKK.out _ _ ⟨(PP.out.pbox.next belX49).1, belX49⟩ (fun _ => ?_)
          clear hKK KK
          try dsimp only [getElem_toArray, getElem_cons_succ, getElem_cons_zero, Act.put]
          try simp only [setIfInBounds_toArray, set_cons_zero, set_cons_succ]
          refine wpAnyH_take (i := 14) (v := ?_) rfl (by kernel_rfl) (by kernel_rfl) (by kernel_rfl) (fun _ _ _ h => h) (Or.inl ⟨by kernel_rfl, ?_⟩) ⟨(PP.out.pbox.next belX49).1, belX49⟩ ?_
          rotate_left
          ·(intro w0 z; (try dsimp only at z); obtain ⟨c0, hLB⟩ := z; go_simp; try with_reducible rfl)
          try dsimp only [getElem_toArray, getElem_cons_succ, getElem_cons_zero, Act.put]
          try simp only [setIfInBounds_toArray, set_cons_zero, set_cons_succ]
          refine wpAnyH_ready (rs := [15]) (by kernel_rfl) (by simp) (AllReadyH.cons rfl (fun KK hKK => ?_) AllReadyH.nil)
          go_simp
          obtain ⟨X50, hX50⟩ : ∃ X, X = X49.alloc (.cells #[.slice none 0 0] 28) := ⟨_, rfl⟩
          have belX50 : Below w2.heap.size w2 X50 := by rw [hX50]; exact belX49.alloc belX49.size _
          have hOX50 := hOX49.alloc (.cells #[.slice none 0 0] 28)
          rw [← hX50] at hOX50
          obtain ⟨bb, hbb⟩ : ∃ bb, bb = X49.heap.size := ⟨_, rfl⟩
          have hbbw : w2.heap.size ≤ bb := by rw [hbb]; exact belX49.size
          have hBX50 : Boxed X50 bb 28 (.slice none 0 0) := by rw [hX50, hbb]; exact Boxed.new _ _ _
          rw [← hbb]
          clear hbb
          rw [← hX50]
          clear hX50
          refine hKK.out _ _ ⟨(PP.out.pbox.next belX50).1, belX50⟩ (fun _ => ?_)
          clear hKK KK
          try dsimp only [getElem_toArray, getElem_cons_succ, getElem_cons_zero, Act.put]
          try simp only [setIfInBounds_toArray, set_cons_zero, set_cons_succ]
          refine wpAnyH_ready (rs := [16]) (by kernel_rfl) (by simp) (AllReadyH.cons rfl (fun KK hKK => ?_) AllReadyH.nil)
          have hcb := hBX50.cell
          have hfb := hBX50.frozen
          go_simp
          obtain ⟨X51, hX51⟩ : ∃ X, X = X50.setCell ⟨bb, 0, none⟩ (.slice aX49 (N - K + 1 + K) cX49) := ⟨_, rfl⟩
          have belX51 : Below w2.heap.size w2 X51 := by rw [hX51]; exact belX50.setCell (p := ⟨bb, 0, none⟩) hbbw _
          have hfin := turned_end (hO := hOX50) (hB := hBX50) (read_turned (g := X1.heap.size) husr.out hvsr.out) (BW2.out.trans (belX51.mono BW2.out.size)) hX51 (by rw [turned_length, HN0.out]; omega)
          rw [← hX51]
          clear hX51
          refine hKK.out _ _ ⟨(PP.out.pbox.next belX51).1, belX51⟩ (fun _ => ?_)
          clear hKK KK
          refine wpAnyH_done (by kernel_rfl) ?_ _
          try dsimp only [getElem_toArray, getElem_cons_succ, getElem_cons_zero, Act.put]
          try simp only [setIfInBounds_toArray, set_cons_zero, set_cons_succ]
          have hp := PP.out.next belX51
          go_wp2_with (fail)
          go_meet
          exact ⟨bb, _, rfl, hp, hfin.1, hfin.2⟩
         ·go_simp
          obtain ⟨X52, hX52⟩ : ∃ X, X = X48.alloc (.cells #[.slice none 0 0] 28) := ⟨_, rfl⟩
          have belX52 : Below w2.heap.size w2 X52 := by rw [hX52]; exact belX48.alloc belX48.size _
          have hOX52 := hOX48.alloc (.cells #[.slice none 0 0] 28)
          rw [← hX52] at hOX52
          obtain ⟨bb, hbb⟩ : ∃ bb, bb = X48.heap.size := ⟨_, rfl⟩
          have hbbw : w2.heap.size ≤ bb := by rw [hbb]; exact belX48.size
          have hBX52 : Boxed X52 bb 28 (.slice none 0 0) := by rw [hX52, hbb]; exact Boxed.new _ _ _
          rw [← hbb]
          clear hbb
          rw [← hX52]
          clear hX52
          refine hKK.out _ _ ⟨(PP.out.pbox.next belX52).1, belX52⟩ (fun _ => ?_)
          clear hKK KK
          try dsimp only [getElem_toArray, getElem_cons_succ, getElem_cons_zero, Act.put]
          try simp only [setIfInBounds_toArray, set_cons_zero, set_cons_succ]
          refine wpAnyH_ready (rs := [13]) (by kernel_rfl) (by simp) (AllReadyH.cons rfl (fun KK hKK => ?_) AllReadyH.nil)
          refine step_append_vals rfl (.tmp 42) (.tmp 46) 26 rfl w2.heap.size 23 i0 (.slice none 0 0) 1 24 Try.underlying26 HI0.out hz0 hz1 hz2 rfl (by decide) (.slice aX48 (N - K + 1) cX48) (N - K + 1) (us ++ [(.slice (some ⟨X1.heap.size, 0, none⟩) 0 0)]) rfl hOX52 (some ⟨pb, po, none⟩) K cp vs rfl (by rw [hvs.out, Nat.mul_one]) (hvsn.out _ (BW2.out.trans (belX52.mono BW2.out.size))) hvs1 (by unfold maxLen; omega) (by omega) belX52.size ?_
          intro vX53 X53 hOX53 hgX53
          have belX53 : Below w2.heap.size w2 X53 := row_below belX52 belX52.size hOX52 hgX53
          have hBX53 : Boxed X53 bb 28 (.slice none 0 0) := box_grown hBX52 hOX52 hgX53
          obtain ⟨aX53, cX53, hvX53⟩ := oslice hOX53
          subst hvX53
          clear hgX53
          refine hKK.out _ _ ⟨(PP.out.pbox.next belX53).1, belX53⟩ (fun _ => ?_)
          clear hKK KK
          try dsimp only [getElem_toArray, getElem_cons_succ, getElem_cons_zero, Act.put]
          try simp only [setIfInBounds_toArray, set_cons_zero, set_cons_succ]
          refine wpAnyH_take (i := 14) (v := ?_) rfl (by kernel_rfl) (by kernel_rfl) (by kernel_rfl) (fun _ _ _ h => h) (Or.inl ⟨by kernel_rfl, ?_⟩) ⟨(PP.out.pbox.next belX53).1, belX53⟩ ?_
          rotate_left
          ·(intro w0 z; (try dsimp only at z); obtain ⟨c0, hLB⟩ := z; go_simp; try with_reducible rfl)
          try dsimp only [getElem_toArray, getElem_cons_succ, getElem_cons_zero, Act.put]
          try simp only [setIfInBounds_toArray, set_cons_zero, set_cons_succ]
          refine wpAnyH_ready (rs := [16]) (by kernel_rfl) (by simp) (AllReadyH.cons rfl (fun KK hKK => ?_) AllReadyH.nil)
          have hcb := hBX53.cell
          have hfb := hBX53.frozen
          go_simp
          obtain ⟨X54, hX54⟩ : ∃ X, X = X53.setCell ⟨bb, 0, none⟩ (.slice aX53 (N - K + 1 + K) cX53) := ⟨_, rfl⟩
          have belX54 : Below w2.heap.size w2 X54 := by rw [hX54]; exact belX53.setCell (p := ⟨bb, 0, none⟩) hbbw _
          have hfin := turned_end (hO := hOX53) (hB := hBX53) (read_turned (g := X1.heap.size) husr.out hvsr.out) (BW2.out.trans (belX54.mono BW2.out.size)) hX54 (by rw [turned_length, HN0.out]; omega)
          rw [← hX54]
          clear hX54
          refine hKK.out _ _ ⟨(PP.out.pbox.next belX54).1, belX54⟩ (fun _ => ?_)
          clear hKK KK
          refine wpAnyH_done (by kernel_rfl) ?_ _
          try dsimp only [getElem_toArray, getElem_cons_succ, getElem_cons_zero, Act.put]
          try simp only [setIfInBounds_toArray, set_cons_zero, set_cons_succ]
          have hp := PP.out.next belX54
          go_wp2_with (fail)
          go_meet
          exact ⟨bb, _, rfl, hp, hfin.1, hfin.2⟩
        ·go_simp
         obtain ⟨X55, hX55⟩ : ∃ X, X = X47.alloc (.cells #[.slice none 0 0] 28) := ⟨_, rfl⟩
         have belX55 : Below w2.heap.size w2 X55 := by rw [hX55]; exact belX47.alloc belX47.size _
         have hOX55 := hOX47.alloc (.cells #[.slice none 0 0] 28)
         rw [← hX55] at hOX55
         have hCX55 : Boxed X55 b7 23 (.slice (some ⟨X1.heap.size, 0, none⟩) 0 0) := by rw [hX55]; exact hCX47.alloc _
         obtain ⟨bb, hbb⟩ : ∃ bb, bb = X47.heap.size := ⟨_, rfl⟩
         have hbbw : w2.heap.size ≤ bb := by rw [hbb]; exact belX47.size
         have hBX55 : Boxed X55 bb 28 (.slice none 0 0) := by rw [hX55, hbb]; exact Boxed.new _ _ _
         rw [← hbb]
         clear hbb
         rw [← hX55]
         clear hX55
         refine hKK.out _ _ ⟨(PP.out.pbox.next belX55).1, belX55⟩ (fun _ => ?_)
         clear hKK KK
         try dsimp only [getElem_toArray, getElem_cons_succ, getElem_cons_zero, Act.put]
         try simp only [setIfInBounds_toArray, set_cons_zero, set_cons_succ]
         refine wpAnyH_ready (rs := [8]) (by kernel_rfl) (by simp) (AllReadyH.cons rfl (fun KK hKK => ?_) AllReadyH.nil)
         refine step_append_vals rfl (.tmp 39) (.tmp 41) 26 rfl w2.heap.size 23 i0 (.slice none 0 0) 1 24 Try.underlying26 HI0.out hz0 hz1 hz2 rfl (by decide) (.slice aX47 (N - K) cX47) (N - K) us rfl hOX55 (some ⟨b7, 0, none⟩) 1 1 [(.slice (some ⟨X1.heap.size, 0, none⟩) 0 0)] rfl rfl (boxed_news hCX55) (fun u hu => by rw [List.mem_singleton.1 hu]; rfl) (by unfold maxLen; omega) (by omega) belX55.size ?_
         intro vX56 X56 hOX56 hgX56
         have belX56 : Below w2.heap.size w2 X56 := row_below belX55 belX55.size hOX55 hgX56
         have hBX56 : Boxed X56 bb 28 (.slice none 0 0) := box_grown hBX55 hOX55 hgX56
         obtain ⟨aX56, cX56, hvX56⟩ := oslice hOX56
         subst hvX56
         clear hgX56
         refine hKK.out _ _ ⟨(PP.out.pbox.next belX56).1, belX56⟩ (fun _ => ?_)
         clear hKK KK
         try dsimp only [getElem_toArray, getElem_cons_succ, getElem_cons_zero, Act.put]
         try simp only [setIfInBounds_toArray, set_cons_zero, set_cons_succ]
         refine wpAnyH_ready (rs := [13]) (by kernel_rfl) (by simp) (AllReadyH.cons rfl (fun KK hKK => ?_) AllReadyH.nil)
         refine step_append_vals rfl (.tmp 42) (.tmp 46) 26 rfl w2.heap.size 23 i0 (.slice none 0 0) 1 24 Try.underlying26 HI0.out hz0 hz1 hz2 rfl (by decide) (.slice aX56 (N - K + 1) cX56) (N - K + 1) (us ++ [(.slice (some ⟨X1.heap.size, 0, none⟩) 0 0)]) rfl hOX56 (some ⟨pb, po, none⟩) K cp vs rfl (by rw [hvs.out, Nat.mul_one]) (hvsn.out _ (BW2.out.trans (belX56.mono BW2.out.size))) hvs1 (by unfold maxLen; omega) (by omega) belX56.size ?_
         intro vX57 X57 hOX57 hgX57
         have belX57 : Below w2.heap.size w2 X57 := row_below belX56 belX56.size hOX56 hgX57
         have hBX57 : Boxed X57 bb 28 (.slice none 0 0) := box_grown hBX56 hOX56 hgX57
         obtain ⟨aX57, cX57, hvX57⟩ := oslice hOX57
         subst hvX57
         clear hgX57
         refine hKK.out _ _ ⟨(PP.out.pbox.next belX57).1, belX57⟩ (fun _ => ?_)
         clear hKK KK
         try dsimp only [getElem_toArray, getElem_cons_succ, getElem_cons_zero, Act.put]
         try simp only [setIfInBounds_toArray, set_cons_zero, set_cons_succ]
         refine wpAnyH_take (i := 14) (v := ?_) rfl (by kernel_rfl) (by kernel_rfl) (by kernel_rfl) (fun _ _ _ h => h) (Or.inl ⟨by kernel_rfl, ?_⟩) ⟨(PP.out.pbox.next belX57).1, belX57⟩ ?_
         rotate_left
         ·(intro w0 z; (try dsimp only at z); obtain ⟨c0, hLB⟩ := z; go_simp; try with_reducible rfl)
         try dsimp only [getElem_toArray, getElem_cons_succ, getElem_cons_zero, Act.put]
         try simp only [setIfInBounds_toArray, set_cons_zero, set_cons_succ]
         refine wpAnyH_ready (rs := [16]) (by kernel_rfl) (by simp) (AllReadyH.cons rfl (fun KK hKK => ?_) AllReadyH.nil)
         have hcb := hBX57.cell
         have hfb := hBX57.frozen
         go_simp
         obtain ⟨X58, hX58⟩ : ∃ X, X = X57.setCell ⟨bb, 0, none⟩ (.slice aX57 (N - K + 1 + K) cX57) := ⟨_, rfl⟩
         have belX58 : Below w2.heap.size w2 X58 := by rw [hX58]; exact belX57.setCell (p := ⟨bb, 0, none⟩) hbbw _
         have hfin := turned_end (hO := hOX57) (hB := hBX57) (read_turned (g := X1.heap.size) husr.out hvsr.out) (BW2.out.trans (belX58.mono BW2.out.size)) hX58 (by rw [turned_length, HN0.out]; omega)
         rw [← hX58]
         clear hX58
         refine hKK.out _ _ ⟨(PP.out.pbox.next belX58).1, belX58⟩ (fun _ => ?_)
         clear hKK KK
         refine wpAnyH_done (by kernel_rfl) ?_ _
         try dsimp only [getElem_toArray, getElem_cons_succ, getElem_cons_zero, Act.put]
         try simp only [setIfInBounds_toArray, set_cons_zero, set_cons_succ]
         have hp := PP.out.next belX58
         go_wp2_with (fail)
         go_meet
         exact ⟨bb, _, rfl, hp, hfin.1, hfin.2⟩
       ·go_simp
        obtain ⟨X59, hX59⟩ : ∃ X, X = X46.alloc (.cells #[.slice none 0 0] 28) := ⟨_, rfl⟩
        have belX59 : Below w2.heap.size w2 X59 := by rw [hX59]; exact belX46.alloc belX46.size _
        have hOX59 := hOX46.alloc (.cells #[.slice none 0 0] 28)
        rw [← hX59] at hOX59
        have hCX59 : Boxed X59 b7 23 (.slice (some ⟨X1.heap.size, 0, none⟩) 0 0) := by rw [hX59]; exact hCX46.alloc _
        obtain ⟨bb, hbb⟩ : ∃ bb, bb = X46.heap.size := ⟨_, rfl⟩
        have hbbw : w2.heap.size ≤ bb := by rw [hbb]; exact belX46.size
        have hBX59 : Boxed X59 bb 28 (.slice none 0 0) := by rw [hX59, hbb]; exact Boxed.new _ _ _
        rw [← hbb]
        clear hbb
        rw [← hX59]
        clear hX59
        refine hKK.out _ _ ⟨(PP.out.pbox.next belX59).1, belX59⟩ (fun _ => ?_)
        clear hKK KK
        try dsimp only [getElem_toArray, getElem_cons_succ, getElem_cons_zero, Act.put]
        try simp only [setIfInBounds_toArray, set_cons_zero, set_cons_succ]
        refine wpAnyH_ready (rs := [5]) (by kernel_rfl) (by simp) (AllReadyH.cons rfl (fun KK hKK => ?_) AllReadyH.nil)
        refine step_append_vals rfl (.tmp 34) (.tmp 38) 26 rfl w2.heap.size 23 i0 (.slice none 0 0) 1 24 Try.underlying26 HI0.out hz0 hz1 hz2 rfl (by decide) (.slice (some ⟨W4.heap.size, 0, none⟩) 0 0) 0 [] rfl hOX59 (some ⟨pb, po + K, none⟩) (N - K) (cp - K) us rfl (by rw [hus.out, Nat.mul_one]) (husn.out _ (BW2.out.trans (belX59.mono BW2.out.size))) hus1 (by unfold maxLen; omega) (by omega) belX59.size ?_
        intro vX60 X60 hOX60 hgX60
        rw [Nat.zero_add, List.nil_append] at hOX60
        have belX60 : Below w2.heap.size w2 X60 := row_below belX59 belX59.size hOX59 hgX60
        have hBX60 : Boxed X60 bb 28 (.slice none 0 0) := box_grown hBX59 hOX59 hgX60
        have hCX60 := boxed_keep hCX59 hne7 hgX60
        obtain ⟨aX60, cX60, hvX60⟩ := oslice hOX60
        subst hvX60
        clear hgX60
        refine hKK.out _ _ ⟨(PP.out.pbox.next belX60).1, belX60⟩ (fun _ => ?_)
        clear hKK KK
        try dsimp only [getElem_toArray, getElem_cons_succ, getElem_cons_zero, Act.put]
        try simp only [setIfInBounds_toArray, set_cons_zero, set_cons_succ]
        refine wpAnyH_ready (rs := [8]) (by kernel_rfl) (by simp) (AllReadyH.cons rfl (fun KK hKK => ?_) AllReadyH.nil)
        refine step_append_vals rfl (.tmp 39) (.tmp 41) 26 rfl w2.heap.size 23 i0 (.slice none 0 0) 1 24 Try.underlying26 HI0.out hz0 hz1 hz2 rfl (by decide) (.slice aX60 (N - K) cX60) (N - K) us rfl hOX60 (some ⟨b7, 0, none⟩) 1 1 [(.slice (some ⟨X1.heap.size, 0, none⟩) 0 0)] rfl rfl (boxed_news hCX60) (fun u hu => by rw [List.mem_singleton.1 hu]; rfl) (by unfold maxLen; omega) (by omega) belX60.size ?_
        intro vX61 X61 hOX61 hgX61
        have belX61 : Below w2.heap.size w2 X61 := row_below belX60 belX60.size hOX60 hgX61
        have hBX61 : Boxed X61 bb 28 (.slice none 0 0) := box_grown hBX60 hOX60 hgX61
        obtain ⟨aX61, cX61, hvX61⟩ := oslice hOX61
        subst hvX61
        clear hgX61
        refine hKK.out _ _ ⟨(PP.out.pbox.next belX61).1, belX61⟩ (fun _ => ?_)
        clear hKK KK
        try dsimp only [getElem_toArray, getElem_cons_succ, getElem_cons_zero, Act.put]
        try simp only [setIfInBounds_toArray, set_cons_zero, set_cons_succ]
        refine wpAnyH_ready (rs := [13]) (by kernel_rfl) (by simp) (AllReadyH.cons rfl (fun KK hKK => ?_) AllReadyH.nil)
        refine step_append_vals rfl (.tmp 42) (.tmp 46) 26 rfl w2.heap.size 23 i0 (.slice none 0 0) 1 24 Try.underlying26 HI0.out hz0 hz1 hz2 rfl (by decide) (.slice aX61 (N - K + 1) cX61) (N - K + 1) (us ++ [(.slice (some ⟨X1.heap.size, 0, none⟩) 0 0)]) rfl hOX61 (some ⟨pb, po, none⟩) K cp vs rfl (by rw [hvs.out, Nat.mul_one]) (hvsn.out _ (BW2.out.trans (belX61.mono BW2.out.size))) hvs1 (by unfold maxLen; omega) (by omega) belX61.size ?_
        intro vX62 X62 hOX62 hgX62
        have belX62 : Below w2.heap.size w2 X62 := row_below belX61 belX61.size hOX61 hgX62
        have hBX62 : Boxed X62 bb 28 (.slice none 0 0) := box_grown hBX61 hOX61 hgX62
        obtain ⟨aX62, cX62, hvX62⟩ := oslice hOX62
        subst hvX62
        clear hgX62
        refine hKK.out _ _ ⟨(PP.out.pbox.next belX62).1, belX62⟩ (fun _ => ?_)
        clear hKK KK
        try dsimp only [getElem_toArray, getElem_cons_succ, getElem_cons_zero, Act.put]
        try simp only [setIfInBounds_toArray, set_cons_zero, set_cons_succ]
        refine wpAnyH_take (i := 14) (v := ?_) rfl (by kernel_rfl) (by kernel_rfl) (by kernel_rfl) (fun _ _ _ h => h) (Or.inl ⟨by kernel_rfl, ?_⟩) ⟨(PP.out.pbox.next belX62).1, belX62⟩ ?_
        rotate_left
        ·(intro w0 z; (try dsimp only at z); obtain ⟨c0, hLB⟩ := z; go_simp; try with_reducible rfl)
        try dsimp only [getElem_toArray, getElem_cons_succ, getElem_cons_zero, Act.put]
        try simp only [setIfInBounds_toArray, set_cons_zero, set_cons_succ]
        refine wpAnyH_ready (rs := [16]) (by kernel_rfl) (by simp) (AllReadyH.cons rfl (fun KK hKK => ?_) AllReadyH.nil)
        have hcb := hBX62.cell
        have hfb := hBX62.frozen
        go_simp
        obtain ⟨X63, hX63⟩ : ∃ X, X = X62.setCell ⟨bb, 0, none⟩ (.slice aX62 (N - K + 1 + K) cX62) := ⟨_, rfl⟩
        have belX63 : Below w2.heap.size w2 X63 := by rw [hX63]; exact belX62.setCell (p := ⟨bb, 0, none⟩) hbbw _
        have hfin := turned_end (hO := hOX62) (hB := hBX62) (read_turned (g := X1.heap.size) husr.out hvsr.out) (BW2.out.trans (belX63.mono BW2.out.size)) hX63 (by rw [turned_length, HN0.out]; omega)
        rw [← hX63]
        clear hX63
        refine hKK.out _ _ ⟨(PP.out.pbox.next belX63).1, belX63⟩ (fun _ => ?_)
        clear hKK KK
        refine wpAnyH_done (by kernel_rfl) ?_ _
        try dsimp only [getElem_toArray, getElem_cons_succ, getElem_cons_zero, Act.put]
        try simp only [setIfInBounds_toArray, set_cons_zero, set_cons_succ]
        have hp := PP.out.next belX63
        go_wp2_with (fail)
        go_meet
        exact ⟨bb, _, rfl, hp, hfin.1, hfin.2⟩
      ·go_simp
       obtain ⟨X64, hX64⟩ : ∃ X, X = X27.alloc (.cells #[.slice none 0 0] 28) := ⟨_, rfl⟩
       have belX64 : Below w2.heap.size w2 X64 := by rw [hX64]; exact belX27.alloc belX27.size _
       have hOX64 := hOX27.alloc (.cells #[.slice none 0 0] 28)
       rw [← hX64] at hOX64
       obtain ⟨bb, hbb⟩ : ∃ bb, bb = X27.heap.size := ⟨_, rfl⟩
       have hbbw : w2.heap.size ≤ bb := by rw [hbb]; exact belX27.size
       have hBX64 : Boxed X64 bb 28 (.slice none 0 0) := by rw [hX64, hbb]; exact Boxed.new _ _ _
       rw [← hbb]
       clear hbb
       rw [← hX64]
       clear hX64
       refine hKK.out _ _ ⟨(PP.out.pbox.next belX64).1, belX64⟩ (fun _ => ?_)
       clear hKK KK
       try dsimp only [getElem_toArray, getElem_cons_succ, getElem_cons_zero, Act.put]
       try simp only [setIfInBounds_toArray, set_cons_zero, set_cons_succ]
       refine wpAnyH_ready (rs := [5, 7]) (by kernel_rfl) (by simp) (AllReadyH.cons rfl (fun KK hKK => ?_) (AllReadyH.cons rfl (fun KK hKK => ?_) AllReadyH.nil))
       ·refine step_append_vals rfl (.tmp 34) (.tmp 38) 26 rfl w2.heap.size 23 i0 (.slice none 0 0) 1 24 Try.underlying26 HI0.out hz0 hz1 hz2 rfl (by decide) (.slice (some ⟨W4.heap.size, 0, none⟩) 0 0) 0 [] rfl hOX64 (some ⟨pb, po + K, none⟩) (N - K) (cp - K) us rfl (by rw [hus.out, Nat.mul_one]) (husn.out _ (BW2.out.trans (belX64.mono BW2.out.size))) hus1 (by unfold maxLen; omega) (by omega) belX64.size ?_
        intro vX65 X65 hOX65 hgX65
        rw [Nat.zero_add, List.nil_append] at hOX65
        have belX65 : Below w2.heap.size w2 X65 := row_below belX64 belX64.size hOX64 hgX65
        have hBX65 : Boxed X65 bb 28 (.slice none 0 0) := box_grown hBX64 hOX64 hgX65
        obtain ⟨aX65, cX65, hvX65⟩ := oslice hOX65
        subst hvX65
        clear hgX65
        refine hKK.out _ _ ⟨(PP.out.pbox.next belX65).1, belX65⟩ (fun _ => ?_)
        clear hKK KK
        try dsimp only [getElem_toArray, getElem_cons_succ, getElem_cons_zero, Act.put]
        try simp only [setIfInBounds_toArray, set_cons_zero, set_cons_succ]
        refine wpAnyH_ready (rs := [7]) (by kernel_rfl) (by simp) (AllReadyH.cons rfl (fun KK hKK => ?_) AllReadyH.nil)
        go_simp
        obtain ⟨X66, hX66⟩ : ∃ X, X = X65.alloc (.cells #[(.slice (some ⟨X1.heap.size, 0, none⟩) 0 0)] 23) := ⟨_, rfl⟩
        have belX66 : Below w2.heap.size w2 X66 := by rw [hX66]; exact belX65.alloc belX65.size _
        have hOX66 := hOX65.alloc (.cells #[(.slice (some ⟨X1.heap.size, 0, none⟩) 0 0)] 23)
        rw [← hX66] at hOX66
        have hBX66 : Boxed X66 bb 28 (.slice none 0 0) := by rw [hX66]; exact hBX65.alloc _
        obtain ⟨b7, hb7⟩ : ∃ b7, b7 = X65.heap.size := ⟨_, rfl⟩
        have hCX66 : Boxed X66 b7 23 (.slice (some ⟨X1.heap.size, 0, none⟩) 0 0) := by rw [hX66, hb7]; exact Boxed.new _ _ _
        have hne7 : ((.slice aX65 (N - K) cX65) : Value).ownBlock ≠ some b7 := by rw [hb7]; exact own_fresh hOX65
        rw [← hb7]
        clear hb7
        rw [← hX66]
        clear hX66
        refine hKK.out _ _ ⟨(PP.out.pbox.next belX66).1, belX66⟩ (fun _ => ?_)
        clear hKK KK
        try dsimp only [getElem_toArray, getElem_cons_succ, getElem_cons_zero, Act.put]
        try simp only [setIfInBounds_toArray, set_cons_zero, set_cons_succ]
        refine wpAnyH_ready (rs := [8]) (by kernel_rfl) (by simp) (AllReadyH.cons rfl (fun KK hKK => ?_) AllReadyH.nil)
        refine step_append_vals rfl (.tmp 39) (.tmp 41) 26 rfl w2.heap.size 23 i0 (.slice none 0 0) 1 24 Try.underlying26 HI0.out hz0 hz1 hz2 rfl (by decide) (.slice aX65 (N - K) cX65) (N - K) us rfl hOX66 (some ⟨b7, 0, none⟩) 1 1 [(.slice (some ⟨X1.heap.size, 0, none⟩) 0 0)] rfl rfl (boxed_news hCX66) (fun u hu => by rw [List.mem_singleton.1 hu]; rfl) (by unfold maxLen; omega) (by omega) belX66.size ?_
        intro vX67 X67 hOX67 hgX67
        have belX67 : Below w2.heap.size w2 X67 := row_below belX66 belX66.size hOX66 hgX67
        have hBX67 : Boxed X67 bb 28 (.slice none 0 0) := box_grown hBX66 hOX66 hgX67
        obtain ⟨aX67, cX67, hvX67⟩ := oslice hOX67
        subst hvX67
        clear hgX67
        refine hKK.out _ _ ⟨(PP.out.pbox.next belX67).1, belX67⟩ (fun _ => ?_)
        clear hKK KK
        try dsimp only [getElem_toArray, getElem_cons_succ, getElem_cons_zero, Act.put]
        try simp only [setIfInBounds_toArray, set_cons_zero, set_cons_succ]
        refine wpAnyH_ready (rs := [13]) (by kernel_rfl) (by simp) (AllReadyH.cons rfl (fun KK hKK => ?_) AllReadyH.nil)
        refine step_append_vals rfl (.tmp 42) (.tmp 46) 26 rfl w2.heap.size 23 i0 (.slice none 0 0) 1 24 Try.underlying26 HI0.out hz0 hz1 hz2 rfl (by decide) (.slice aX67 (N - K + 1) cX67) (N - K + 1) (us ++ [(.slice (some ⟨X1.heap.size, 0, none⟩) 0 0)]) rfl hOX67 (some ⟨pb, po, none⟩) K cp vs rfl (by rw [hvs.out, Nat.mul_one]) (hvsn.out _ (BW2.out.trans (belX67.mono BW2.out.size))) hvs1 (by unfold maxLen; omega) (by omega) belX67.size ?_
        intro vX68 X68 hOX68 hgX68
        have belX68 : Below w2.heap.size w2 X68 := row_below belX67 belX67.size hOX67 hgX68
        have hBX68 : Boxed X68 bb 28 (.slice none 0 0) := box_grown hBX67 hOX67 hgX68
        obtain ⟨aX68, cX68, hvX68⟩ := oslice hOX68
        subst hvX68
        clear hgX68
        refine hKK.out _ _ ⟨(PP.out.pbox.next belX68).1, belX68⟩ (fun _ => ?_)
        clear hKK KK
        try dsimp only [getElem_toArray, getElem_cons_succ, getElem_cons_zero, Act.put]
        try simp only [setIfInBounds_toArray, set_cons_zero, set_cons_succ]
        refine wpAnyH_take (i := 14) (v := ?_) rfl (by kernel_rfl) (by kernel_rfl) (by kernel_rfl) (fun _ _ _ h => h) (Or.inl ⟨by kernel_rfl, ?_⟩) ⟨(PP.out.pbox.next belX68).1, belX68⟩ ?_
        rotate_left
        ·(intro w0 z; (try dsimp only at z); obtain ⟨c0, hLB⟩ := z; go_simp; try with_reducible rfl)
        try dsimp only [getElem_toArray, getElem_cons_succ, getElem_cons_zero, Act.put]
        try simp only [setIfInBounds_toArray, set_cons_zero, set_cons_succ]
        refine wpAnyH_ready (rs := [16]) (by kernel_rfl) (by simp) (AllReadyH.cons rfl (fun KK hKK => ?_) AllReadyH.nil)
        have hcb := hBX68.cell
        have hfb := hBX68.frozen
        go_simp
        obtain ⟨X69, hX69⟩ : ∃ X, X = X68.setCell ⟨bb, 0, none⟩ (.slice aX68 (N - K + 1 + K) cX68) := ⟨_, rfl⟩
        have belX69 : Below w2.heap.size w2 X69 := by rw [hX69]; exact belX68.setCell (p := ⟨bb, 0, none⟩) hbbw _
        have hfin := turned_end (hO := hOX68) (hB := hBX68) (read_turned (g := X1.heap.size) husr.out hvsr.out) (BW2.out.trans (belX69.mono BW2.out.size)) hX69 (by rw [turned_length, HN0.out]; omega)
        rw [← hX69]
        clear hX69
        refine hKK.out _ _ ⟨(PP.out.pbox.next belX69).1, belX69⟩ (fun _ => ?_)
        clear hKK KK
        refine wpAnyH_done (by kernel_rfl) ?_ _
        try dsimp only [getElem_toArray, getElem_cons_succ, getElem_cons_zero, Act.put]
        try simp only [setIfInBounds_toArray, set_cons_zero, set_cons_succ]
        have hp := PP.out.next belX69
        go_wp2_with (fail)
        go_meet
        exact ⟨bb, _, rfl, hp, hfin.1, hfin.2⟩
       ·go_simp
        obtain ⟨X70, hX70⟩ : ∃ X, X = X64.alloc (.cells #[(.slice (some ⟨X1.heap.size, 0, none⟩) 0 0)] 23) := ⟨_, rfl⟩
        have belX70 : Below w2.heap.size w2 X70 := by rw [hX70]; exact belX64.alloc belX64.size _
        have hOX70 := hOX64.alloc (.cells #[(.slice (some ⟨X1.heap.size, 0, none⟩) 0 0)] 23)
        rw [← hX70] at hOX70
        have hBX70 : Boxed X70 bb 28 (.slice none 0 0) := by rw [hX70]; exact hBX64.alloc _
        obtain ⟨b7, hb7⟩ : ∃ b7, b7 = X64.heap.size := ⟨_, rfl⟩
        have hCX70 : Boxed X70 b7 23 (.slice (some ⟨X1.heap.size, 0, none⟩) 0 0) := by rw [hX70, hb7]; exact Boxed.new _ _ _
        have hne7 : ((.slice (some ⟨W4.heap.size, 0, none⟩) 0 0) : Value).ownBlock ≠ some b7 := by rw [hb7]; exact own_fresh hOX64
        rw [← hb7]
        clear hb7
        rw [← hX70]
        clear hX70
        refine hKK.out _ _ ⟨(PP.out.pbox.next belX70).1, belX70⟩ (fun _ => ?_)
        clear hKK KK
        try dsimp only [getElem_toArray, getElem_cons_succ, getElem_cons_zero, Act.put]
        try simp only [setIfInBounds_toArray, set_cons_zero, set_cons_succ]
        refine wpAnyH_ready (rs := [5]) (by kernel_rfl) (by simp) (AllReadyH.cons rfl (fun KK hKK => ?_) AllReadyH.nil)
        refine step_append_vals rfl (.tmp 34) (.tmp 38) 26 rfl w2.heap.size 23 i0 (.slice none 0 0) 1 24 Try.underlying26 HI0.out hz0 hz1 hz2 rfl (by decide) (.slice (some ⟨W4.heap.size, 0, none⟩) 0 0) 0 [] rfl hOX70 (some ⟨pb, po + K, none⟩) (N - K) (cp - K) us rfl (by rw [hus.out, Nat.mul_one]) (husn.out _ (BW2.out.trans (belX70.mono BW2.out.size))) hus1 (by unfold maxLen; omega) (by omega) belX70.size ?_
        intro vX71 X71 hOX71 hgX71
        rw [Nat.zero_add, List.nil_append] at hOX71
        have belX71 : Below w2.heap.size w2 X71 := row_below belX70 belX70.size hOX70 hgX71
        have hBX71 : Boxed X71 bb 28 (.slice none 0 0) := box_grown hBX70 hOX70 hgX71
        have hCX71 := boxed_keep hCX70 hne7 hgX71
        obtain ⟨aX71, cX71, hvX71⟩ := oslice hOX71
        subst hvX71
        clear hgX71
        refine hKK.out _ _ ⟨(PP.out.pbox.next belX71).1, belX71⟩ (fun _ => ?_)
        clear hKK KK
        try dsimp only [getElem_toArray, getElem_cons_succ, getElem_cons_zero, Act.put]
        try simp only [setIfInBounds_toArray, set_cons_zero, set_cons_succ]
        refine wpAnyH_ready (rs := [8]) (by kernel_rfl) (by simp) (AllReadyH.cons rfl (fun KK hKK => ?_) AllReadyH.nil)
        refine step_append_vals rfl (.tmp 39) (.tmp 41) 26 rfl w2.heap.size 23 i0 (.slice none 0 0) 1 24 Try.underlying26 HI0.out hz0 hz1 hz2 rfl (by decide) (.slice aX71 (N - K) cX71) (N - K) us rfl hOX71 (some ⟨b7, 0, none⟩) 1 1 [(.slice (some ⟨X1.heap.size, 0, none⟩) 0 0)] rfl rfl (boxed_news hCX71) (fun u hu => by rw [List.mem_singleton.1 hu]; rfl) (by unfold maxLen; omega) (by omega) belX71.size ?_
        intro vX72 X72 hOX72 hgX72
        have belX72 : Below w2.heap.size w2 X72 := row_below belX71 belX71.size hOX71 hgX72
        have hBX72 : Boxed X72 bb 28 (.slice none 0 0) := box_grown hBX71 hOX71 hgX72
        obtain ⟨aX72, cX72, hvX72⟩ := oslice hOX72
        subst hvX72
        clear hgX72
        refine hKK.out _ _ ⟨(PP.out.pbox.next belX72).1, belX72⟩ (fun _ => ?_)
        clear hKK KK
        try dsimp only [getElem_toArray, getElem_cons_succ, getElem_cons_zero, Act.put]
        try simp only [setIfInBounds_toArray, set_cons_zero, set_cons_succ]
        refine wpAnyH_ready (rs := [13]) (by kernel_rfl) (by simp) (AllReadyH.cons rfl (fun KK hKK => ?_) AllReadyH.nil)
        refine step_append_vals rfl (.tmp 42) (.tmp 46) 26 rfl w2.heap.size 23 i0 (.slice none 0 0) 1 24 Try.underlying26 HI0.out hz0 hz1 hz2 rfl (by decide) (.slice aX72 (N - K + 1) cX72) (N - K + 1) (us ++ [(.slice (some ⟨X1.heap.size, 0, none⟩) 0 0)]) rfl hOX72 (some ⟨pb, po, none⟩) K cp vs rfl (by rw [hvs.out, Nat.mul_one]) (hvsn.out _ (BW2.out.trans (belX72.mono BW2.out.size))) hvs1 (by unfold maxLen; omega) (by omega) belX72.size ?_
        intro vX73 X73 hOX73 hgX73
        have belX73 : Below w2.heap.size w2 X73 := row_below belX72 belX72.size hOX72 hgX73
        have hBX73 : Boxed X73 bb 28 (.slice none 0 0) := box_grown hBX72 hOX72 hgX73
        obtain ⟨aX73, cX73, hvX73⟩ := oslice hOX73
        subst hvX73
        clear hgX73
        refine hKK.out _ _ ⟨(PP.out.pbox.next belX73).1, belX73⟩ (fun _ => ?_)
        clear hKK KK
        try dsimp only [getElem_toArray, getElem_cons_succ, getElem_cons_zero, Act.put]
        try simp only [setIfInBounds_toArray, set_cons_zero, set_cons_succ]
        refine wpAnyH_take (i := 14) (v := ?_) rfl (by kernel_rfl) (by kernel_rfl) (by kernel_rfl) (fun _ _ _ h => h) (Or.inl ⟨by kernel_rfl, ?_⟩) ⟨(PP.out.pbox.next belX73).1, belX73⟩ ?_
        rotate_left
        ·(intro w0 z; (try dsimp only at z); obtain ⟨c0, hLB⟩ := z; go_simp; try with_reducible rfl)
        try dsimp only [getElem_toArray, getElem_cons_succ, getElem_cons_zero, Act.put]
        try simp only [setIfInBounds_toArray, set_cons_zero, set_cons_succ]
        refine wpAnyH_ready (rs := [16]) (by kernel_rfl) (by simp) (AllReadyH.cons rfl (fun KK hKK => ?_) AllReadyH.nil)
        have hcb := hBX73.cell
        have hfb := hBX73.frozen
        go_simp
        obtain ⟨X74, hX74⟩ : ∃ X, X = X73.setCell ⟨bb, 0, none⟩ (.slice aX73 (N - K + 1 + K) cX73) := ⟨_, rfl⟩
        have belX74 : Below w2.heap.size w2 X74 := by rw [hX74]; exact belX73.setCell (p := ⟨bb, 0, none⟩) hbbw _
        have hfin := turned_end (hO := hOX73) (hB := hBX73) (read_turned (g := X1.heap.size) husr.out hvsr.out) (BW2.out.trans (belX74.mono BW2.out.size)) hX74 (by rw [turned_length, HN0.out]; omega)
        rw [← hX74]
        clear hX74
        refine hKK.out _ _ ⟨(PP.out.pbox.next belX74).1, belX74⟩ (fun _ => ?_)
        clear hKK KK
        refine wpAnyH_done (by kernel_rfl) ?_ _
        try dsimp only [getElem_toArray, getElem_cons_succ, getElem_cons_zero, Act.put]
        try simp only [setIfInBounds_toArray, set_cons_zero, set_cons_succ]
        have hp := PP.out.next belX74
        go_wp2_with (fail)
        go_meet
        exact ⟨bb, _, rfl, hp, hfin.1, hfin.2⟩
     ·go_simp
      obtain ⟨X75, hX75⟩ : ∃ X, X = X1.alloc (.cells #[.slice none 0 0] 28) := ⟨_, rfl⟩
      have belX75 : Below w2.heap.size w2 X75 := by rw [hX75]; exact belX1.alloc belX1.size _
      have hOX75 := hOX1.alloc (.cells #[.slice none 0 0] 28)
      rw [← hX75] at hOX75
      obtain ⟨bb, hbb⟩ : ∃ bb, bb = X1.heap.size := ⟨_, rfl⟩
      have hbbw : w2.heap.size ≤ bb := by rw [hbb]; exact belX1.size
      have hBX75 : Boxed X75 bb 28 (.slice none 0 0) := by rw [hX75, hbb]; exact Boxed.new _ _ _
      rw [← hbb]
      clear hbb
      rw [← hX75]
      clear hX75
      refine hKK.out _ _ ⟨(PP.out.pbox.next belX75).1, belX75⟩ (fun _ => ?_)
      clear hKK KK
      try dsimp only [getElem_toArray, getElem_cons_succ, getElem_cons_zero, Act.put]
      try simp only [setIfInBounds_toArray, set_cons_zero, set_cons_succ]
      refine wpAnyH_ready (rs := [5, 6]) (by kernel_rfl) (by simp) (AllReadyH.cons rfl (fun KK hKK => ?_) (AllReadyH.cons rfl (fun KK hKK => ?_) AllReadyH.nil))
      ·refine step_append_vals rfl (.tmp 34) (.tmp 38) 26 rfl w2.heap.size 23 i0 (.slice none 0 0) 1 24 Try.underlying26 HI0.out hz0 hz1 hz2 rfl (by decide) (.slice (some ⟨W4.heap.size, 0, none⟩) 0 0) 0 [] rfl hOX75 (some ⟨pb, po + K, none⟩) (N - K) (cp - K) us rfl (by rw [hus.out, Nat.mul_one]) (husn.out _ (BW2.out.trans (belX75.mono BW2.out.size))) hus1 (by unfold maxLen; omega) (by omega) belX75.size ?_
       intro vX76 X76 hOX76 hgX76
       rw [Nat.zero_add, List.nil_append] at hOX76
       have belX76 : Below w2.heap.size w2 X76 := row_below belX75 belX75.size hOX75 hgX76
       have hBX76 : Boxed X76 bb 28 (.slice none 0 0) := box_grown hBX75 hOX75 hgX76
       obtain ⟨aX76, cX76, hvX76⟩ := oslice hOX76
       subst hvX76
       clear hgX76
       refine hKK.out _ _ ⟨(PP.out.pbox.next belX76).1, belX76⟩ (fun _ => ?_)
       clear hKK KK
       try dsimp only [getElem_toArray, getElem_cons_succ, getElem_cons_zero, Act.put]
       try simp only [setIfInBounds_toArray, set_cons_zero, set_cons_succ]
       refine wpAnyH_ready (rs := [6]) (by kernel_rfl) (by simp) (AllReadyH.cons rfl (fun KK hKK => ?_) AllReadyH.nil)
       go_simp
       obtain ⟨X77, hX77⟩ : ∃ X, X = X76.alloc (.cells #[] 3) := ⟨_, rfl⟩
       have belX77 : Below w2.heap.size w2 X77 := by rw [hX77]; exact belX76.alloc belX76.size _
       have hOX77 := hOX76.alloc (.cells #[] 3)
       rw [← hX77] at hOX77
       have hBX77 : Boxed X77 bb 28 (.slice none 0 0) := by rw [hX77]; exact hBX76.alloc _
       rw [← hX77]
       clear hX77
       refine hKK.out _ _ ⟨(PP.out.pbox.next belX77).1, belX77⟩ (fun _ => ?_)
       clear hKK KK
       try dsimp only [getElem_toArray, getElem_cons_succ, getElem_cons_zero, Act.put]
       try simp only [setIfInBounds_toArray, set_cons_zero, set_cons_succ]
       refine wpAnyH_ready (rs := [7]) (by kernel_rfl) (by simp) (AllReadyH.cons rfl (fun KK hKK => ?_) AllReadyH.nil)
       go_simp
       obtain ⟨X78, hX78⟩ : ∃ X, X = X77.alloc (.cells #[(.slice (some ⟨X76.heap.size, 0, none⟩) 0 0)] 23) := ⟨_, rfl⟩
       have belX78 : Below w2.heap.size w2 X78 := by rw [hX78]; exact belX77.alloc belX77.size _
       have hOX78 := hOX77.alloc (.cells #[(.slice (some ⟨X76.heap.size, 0, none⟩) 0 0)] 23)
       rw [← hX78] at hOX78
       have hBX78 : Boxed X78 bb 28 (.slice none 0 0) := by rw [hX78]; exact hBX77.alloc _
       obtain ⟨b7, hb7⟩ : ∃ b7, b7 = X77.heap.size := ⟨_, rfl⟩
       have hCX78 : Boxed X78 b7 23 (.slice (some ⟨X76.heap.size, 0, none⟩) 0 0) := by rw [hX78, hb7]; exact Boxed.new _ _ _
       have hne7 : ((.slice aX76 (N - K) cX76) : Value).ownBlock ≠ some b7 := by rw [hb7]; exact own_fresh hOX77
       rw [← hb7]
       clear hb7
       rw [← hX78]
       clear hX78
       refine hKK.out _ _ ⟨(PP.out.pbox.next belX78).1, belX78⟩ (fun _ => ?_)
       clear hKK KK
       try dsimp only [getElem_toArray, getElem_cons_succ, getElem_cons_zero, Act.put]
       try simp only [setIfInBounds_toArray, set_cons_zero, set_cons_succ]
       refine wpAnyH_ready (rs := [8]) (by kernel_rfl) (by simp) (AllReadyH.cons rfl (fun KK hKK => ?_) AllReadyH.nil)
       refine step_append_vals rfl (.tmp 39) (.tmp 41) 26 rfl w2.heap.size 23 i0 (.slice none 0 0) 1 24 Try.underlying26 HI0.out hz0 hz1 hz2 rfl (by decide) (.slice aX76 (N - K) cX76) (N - K) us rfl hOX78 (some ⟨b7, 0, none⟩) 1 1 [(.slice (some ⟨X76.heap.size, 0, none⟩) 0 0)] rfl rfl (boxed_news hCX78) (fun u hu => by rw [List.mem_singleton.1 hu]; rfl) (by unfold maxLen; omega) (by omega) belX78.size ?_
       intro vX79 X79 hOX79 hgX79
       have belX79 : Below w2.heap.size w2 X79 := row_below belX78 belX78.size hOX78 hgX79
       have hBX79 : Boxed X79 bb 28 (.slice none 0 0) := box_grown hBX78 hOX78 hgX79
       obtain ⟨aX79, cX79, hvX79⟩ := oslice hOX79
       subst hvX79
       clear hgX79
       refine hKK.out _ _ ⟨(PP.out.pbox.next belX79).1, belX79⟩ (fun _ => ?_)
       clear hKK KK
       try dsimp only [getElem_toArray, getElem_cons_succ, getElem_cons_zero, Act.put]
       try simp only [setIfInBounds_toArray, set_cons_zero, set_cons_succ]
       refine wpAnyH_ready (rs := [13]) (by kernel_rfl) (by simp) (AllReadyH.cons rfl (fun KK hKK => ?_) AllReadyH.nil)
       refine step_append_vals rfl (.tmp 42) (.tmp 46) 26 rfl w2.heap.size 23 i0 (.slice none 0 0) 1 24 Try.underlying26 HI0.out hz0 hz1 hz2 rfl (by decide) (.slice aX79 (N - K + 1) cX79) (N - K + 1) (us ++ [(.slice (some ⟨X76.heap.size, 0, none⟩) 0 0)]) rfl hOX79 (some ⟨pb, po, none⟩) K cp vs rfl (by rw [hvs.out, Nat.mul_one]) (hvsn.out _ (BW2.out.trans (belX79.mono BW2.out.size))) hvs1 (by unfold maxLen; omega) (by omega) belX79.size ?_
       intro vX80 X80 hOX80 hgX80
       have belX80 : Below w2.heap.size w2 X80 := row_below belX79 belX79.size hOX79 hgX80
       have hBX80 : Boxed X80 bb 28 (.slice none 0 0) := box_grown hBX79 hOX79 hgX80
       obtain ⟨aX80, cX80, hvX80⟩ := oslice hOX80
       subst hvX80
       clear hgX80
       refine hKK.out _ _ ⟨(PP.out.pbox.next belX80).1, belX80⟩ (fun _ => ?_)
       clear hKK KK
       try dsimp only [getElem_toArray, getElem_cons_succ, getElem_cons_zero, Act.put]
       try simp only [setIfInBounds_toArray, set_cons_zero, set_cons_succ]
       refine wpAnyH_take (i := 14) (v := ?_) rfl (by kernel_rfl) (by kernel_rfl) (by kernel_rfl) (fun _ _ _ h => h) (Or.inl ⟨by kernel_rfl, ?_⟩) ⟨(PP.out.pbox.next belX80).1, belX80⟩ ?_
       rotate_left
       ·(intro w0 z; (try dsimp only at z); obtain ⟨c0, hLB⟩ := z; go_simp; try with_reducible rfl)
       try dsimp only [getElem_toArray, getElem_cons_succ, getElem_cons_zero, Act.put]
       try simp only [setIfInBounds_toArray, set_cons_zero, set_cons_succ]
       refine wpAnyH_ready (rs := [16]) (by kernel_rfl) (by simp) (AllReadyH.cons rfl (fun KK hKK => ?_) AllReadyH.nil)
       have hcb := hBX80.cell
       have hfb := hBX80.frozen
       go_simp
       obtain ⟨X81, hX81⟩ : ∃ X, X = X80.setCell ⟨bb, 0, none⟩ (.slice aX80 (N - K + 1 + K) cX80) := ⟨_, rfl⟩
       have belX81 : Below w2.heap.size w2 X81 := by rw [hX81]; exact belX80.setCell (p := ⟨bb, 0, none⟩) hbbw _
       have hfin := turned_end (hO := hOX80) (hB := hBX80) (read_turned (g := X76.heap.size) husr.out hvsr.out) (BW2.out.trans (belX81.mono BW2.out.size)) hX81 (by rw [turned_length, HN0.out]; omega)
       rw [← hX81]
       clear hX81
       refine hKK.out _ _ ⟨(PP.out.pbox.next belX81).1, belX81⟩ (fun _ => ?_)
       clear hKK KK
       refine wpAnyH_done (by kernel_rfl) ?_ _
       try dsimp only [getElem_toArray, getElem_cons_succ, getElem_cons_zero, Act.put]
       try simp only [setIfInBounds_toArray, set_cons_zero, set_cons_succ]
       have hp := PP.out.next belX81
       go_wp2_with (fail)
       go_meet
       exact ⟨bb, _, rfl, hp, hfin.1, hfin.2⟩
      ·go_simp
       obtain ⟨X82, hX82⟩ : ∃ X, X = X75.alloc (.cells #[] 3) := ⟨_, rfl⟩
       have belX82 : Below w2.heap.size w2 X82 := by rw [hX82]; exact belX75.alloc belX75.size _
       have hOX82 := hOX75.alloc (.cells #[] 3)
       rw [← hX82] at hOX82
       have hBX82 : Boxed X82 bb 28 (.slice none 0 0) := by rw [hX82]; exact hBX75.alloc _
       rw [← hX82]
       clear hX82
       refine hKK.out _ _ ⟨(PP.out.pbox.next belX82).1, belX82⟩ (fun _ => ?_)
       clear hKK KK
       try dsimp only [getElem_toArray, getElem_cons_succ, getElem_cons_zero, Act.put]
       try simp only [setIfInBounds_toArray, set_cons_zero, set_cons_succ]
       refine wpAnyH_ready (rs := [5, 7]) (by kernel_rfl) (by simp) (AllReadyH.cons rfl (fun KK hKK => ?_) (AllReadyH.cons rfl (fun KK hKK => ?_) AllReadyH.nil))
       ·refine step_append_vals rfl (.tmp 34) (.tmp 38) 26 rfl w2.heap.size 23 i0 (.slice none 0 0) 1 24 Try.underlying26 HI0.out hz0 hz1 hz2 rfl (by decide) (.slice (some ⟨W4.heap.size, 0, none⟩) 0 0) 0 [] rfl hOX82 (some ⟨pb, po + K, none⟩) (N - K) (cp - K) us rfl (by rw [hus.out, Nat.mul_one]) (husn.out _ (BW2.out.trans (belX82.mono BW2.out.size))) hus1 (by unfold maxLen; omega) (by omega) belX82.size ?_
        intro vX83 X83 hOX83 hgX83
        rw [Nat.zero_add, List.nil_append] at hOX83
        have belX83 : Below w2.heap.size w2 X83 := row_below belX82 belX82.size hOX82 hgX83
        have hBX83 : Boxed X83 bb 28 (.slice none 0 0) := box_grown hBX82 hOX82 hgX83
        obtain ⟨aX83, cX83, hvX83⟩ := oslice hOX83
        subst hvX83
        clear hgX83
        refine hKK.out _ _ ⟨(PP.out.pbox.next belX83).1, belX83⟩ (fun _ => ?_)
        clear hKK KK
        try dsimp only [getElem_toArray, getElem_cons_succ, getElem_cons_zero, Act.put]
        try simp only [setIfInBounds_toArray, set_cons_zero, set_cons_succ]
        refine wpAnyH_ready (rs := [7]) (by kernel_rfl) (by simp) (AllReadyH.cons rfl (fun KK hKK => ?_) AllReadyH.nil)
        go_simp
        obtain ⟨X84, hX84⟩ : ∃ X, X = X83.alloc (.cells #[(.slice (some ⟨X75.heap.size, 0, none⟩) 0 0)] 23) := ⟨_, rfl⟩
        have belX84 : Below w2.heap.size w2 X84 := by rw [hX84]; exact belX83.alloc belX83.size _
        have hOX84 := hOX83.alloc (.cells #[(.slice (some ⟨X75.heap.size, 0, none⟩) 0 0)] 23)
        rw [← hX84] at hOX84
        have hBX84 : Boxed X84 bb 28 (.slice none 0 0) := by rw [hX84]; exact hBX83.alloc _
        obtain ⟨b7, hb7⟩ : ∃ b7, b7 = X83.heap.size := ⟨_, rfl⟩
        have hCX84 : Boxed X84 b7 23 (.slice (some ⟨X75.heap.size, 0, none⟩) 0 0) := by rw [hX84, hb7]; exact Boxed.new _ _ _
        have hne7 : ((.slice aX83 (N - K) cX83) : Value).ownBlock ≠ some b7 := by rw [hb7]; exact own_fresh hOX83
        rw [← hb7]
        clear hb7
        rw [← hX84]
        clear hX84
        refine hKK.out _ _ ⟨(PP.out.pbox.next belX84).1, belX84⟩ (fun _ => ?_)
        clear hKK KK
        try dsimp only [getElem_toArray, getElem_cons_succ, getElem_cons_zero, Act.put]
        try simp only [setIfInBounds_toArray, set_cons_zero, set_cons_succ]
        refine wpAnyH_ready (rs := [8]) (by kernel_rfl) (by simp) (AllReadyH.cons rfl (fun KK hKK => ?_) AllReadyH.nil)
        refine step_append_vals rfl (.tmp 39) (.tmp 41) 26 rfl w2.heap.size 23 i0 (.slice none 0 0) 1 24 Try.underlying26 HI0.out hz0 hz1 hz2 rfl (by decide) (.slice aX83 (N - K) cX83) (N - K) us rfl hOX84 (some ⟨b7, 0, none⟩) 1 1 [(.slice (some ⟨X75.heap.size, 0, none⟩) 0 0)] rfl rfl (boxed_news hCX84) (fun u hu => by rw [List.mem_singleton.1 hu]; rfl) (by unfold maxLen; omega) (by omega) belX84.size ?_
        intro vX85 X85 hOX85 hgX85
        have belX85 : Below w2.heap.size w2 X85 := row_below belX84 belX84.size hOX84 hgX85
        have hBX85 : Boxed X85 bb 28 (.slice none 0 0) := box_grown hBX84 hOX84 hgX85
        obtain ⟨aX85, cX85, hvX85⟩ := oslice hOX85
        subst hvX85
        clear hgX85
        refine hKK.out _ _ ⟨(PP.out.pbox.next belX85).1, belX85⟩ (fun _ => ?_)
        clear hKK KK
        try dsimp only [getElem_toArray, getElem_cons_succ, getElem_cons_zero, Act.put]
        try simp only [setIfInBounds_toArray, set_cons_zero, set_cons_succ]
        refine wpAnyH_ready (rs := [13]) (by kernel_rfl) (by simp) (AllReadyH.cons rfl (fun KK hKK => ?_) AllReadyH.nil)
        refine step_append_vals rfl (.tmp 42) (.tmp 46) 26 rfl w2.heap.size 23 i0 (.slice none 0 0) 1 24 Try.underlying26 HI0.out hz0 hz1 hz2 rfl (by decide) (.slice aX85 (N - K + 1) cX85) (N - K + 1) (us ++ [(.slice (some ⟨X75.heap.size, 0, none⟩) 0 0)]) rfl hOX85 (some ⟨pb, po, none⟩) K cp vs rfl (by rw [hvs.out, Nat.mul_one]) (hvsn.out _ (BW2.out.trans (belX85.mono BW2.out.size))) hvs1 (by unfold maxLen; omega) (by omega) belX85.size ?_
        intro vX86 X86 hOX86 hgX86
        have belX86 : Below w2.heap.size w2 X86 := row_below belX85 belX85.size hOX85 hgX86
        have hBX86 : Boxed X86 bb 28 (.slice none 0 0) := box_grown hBX85 hOX85 hgX86
        obtain ⟨aX86, cX86, hvX86⟩ := oslice hOX86
        subst hvX86
        clear hgX86
        refine hKK.out _ _ ⟨(PP.out.pbox.next belX86).1, belX86⟩ (fun _ => ?_)
        clear hKK KK
        try dsimp only [getElem_toArray, getElem_cons_succ, getElem_cons_zero, Act.put]
        try simp only [setIfInBounds_toArray, set_cons_zero, set_cons_succ]
        refine wpAnyH_take (i := 14) (v := ?_) rfl (by kernel_rfl) (by kernel_rfl) (by kernel_rfl) (fun _ _ _ h => h) (Or.inl ⟨by kernel_rfl, ?_⟩) ⟨(PP.out.pbox.next belX86).1, belX86⟩ ?_
        rotate_left
        ·(intro w0 z; (try dsimp only at z); obtain ⟨c0, hLB⟩ := z; go_simp; try with_reducible rfl)
        try dsimp only [getElem_toArray, getElem_cons_succ, getElem_cons_zero, Act.put]
        try simp only [setIfInBounds_toArray, set_cons_zero, set_cons_succ]
        refine wpAnyH_ready (rs := [16]) (by kernel_rfl) (by simp) (AllReadyH.cons rfl (fun KK hKK => ?_) AllReadyH.nil)
        have hcb := hBX86.cell
        have hfb := hBX86.frozen
        go_simp
        obtain ⟨X87, hX87⟩ : ∃ X, X = X86.setCell ⟨bb, 0, none⟩ (.slice aX86 (N - K + 1 + K) cX86) := ⟨_, rfl⟩
        have belX87 : Below w2.heap.size w2 X87 := by rw [hX87]; exact belX86.setCell (p := ⟨bb, 0, none⟩) hbbw _
        have hfin := turned_end (hO := hOX86) (hB := hBX86) (read_turned (g := X75.heap.size) husr.out hvsr.out) (BW2.out.trans (belX87.mono BW2.out.size)) hX87 (by rw [turned_length, HN0.out]; omega)
        rw [← hX87]
        clear hX87
        refine hKK.out _ _ ⟨(PP.out.pbox.next belX87).1, belX87⟩ (fun _ => ?_)
        clear hKK KK
        refine wpAnyH_done (by kernel_rfl) ?_ _
        try dsimp only [getElem_toArray, getElem_cons_succ, getElem_cons_zero, Act.put]
        try simp only [setIfInBounds_toArray, set_cons_zero, set_cons_succ]
        have hp := PP.out.next belX87
        go_wp2_with (fail)
        go_meet
        exact ⟨bb, _, rfl, hp, hfin.1, hfin.2⟩
       ·go_simp
        obtain ⟨X88, hX88⟩ : ∃ X, X = X82.alloc (.cells #[(.slice (some ⟨X75.heap.size, 0, none⟩) 0 0)] 23) := ⟨_, rfl⟩
        have belX88 : Below w2.heap.size w2 X88 := by rw [hX88]; exact belX82.alloc belX82.size _
        have hOX88 := hOX82.alloc (.cells #[(.slice (some ⟨X75.heap.size, 0, none⟩) 0 0)] 23)
        rw [← hX88] at hOX88
        have hBX88 : Boxed X88 bb 28 (.slice none 0 0) := by rw [hX88]; exact hBX82.alloc _
        obtain ⟨b7, hb7⟩ : ∃ b7, b7 = X82.heap.size := ⟨_, rfl⟩
        have hCX88 : Boxed X88 b7 23 (.slice (some ⟨X75.heap.size, 0, none⟩) 0 0) := by rw [hX88, hb7]; exact Boxed.new _ _ _
        have hne7 : ((.slice (some ⟨W4.heap.size, 0, none⟩) 0 0) : Value).ownBlock ≠ some b7 := by rw [hb7]; exact own_fresh hOX82
        rw [← hb7]
        clear hb7
        rw [← hX88]
        clear hX88
        refine hKK.out _ _ ⟨(PP.out.pbox.next belX88).1, belX88⟩ (fun _ => ?_)
        clear hKK KK
        try dsimp only [getElem_toArray, getElem_cons_succ, getElem_cons_zero, Act.put]
        try simp only [setIfInBounds_toArray, set_cons_zero, set_cons_succ]
        refine wpAnyH_ready (rs := [5]) (by kernel_rfl) (by simp) (AllReadyH.cons rfl (fun KK hKK => ?_) AllReadyH.nil)
        refine step_append_vals rfl (.tmp 34) (.tmp 38) 26 rfl w2.heap.size 23 i0 (.slice none 0 0) 1 24 Try.underlying26 HI0.out hz0 hz1 hz2 rfl (by decide) (.slice (some ⟨W4.heap.size, 0, none⟩) 0 0) 0 [] rfl hOX88 (some ⟨pb, po + K, none⟩) (N - K) (cp - K) us rfl (by rw [hus.out, Nat.mul_one]) (husn.out _ (BW2.out.trans (belX88.mono BW2.out.size))) hus1 (by unfold maxLen; omega) (by omega) belX88.size ?_
        intro vX89 X89 hOX89 hgX89
        rw [Nat.zero_add, List.nil_append] at hOX89
        have belX89 : Below w2.heap.size w2 X89 := row_below belX88 belX88.size hOX88 hgX89
        have hBX89 : Boxed X89 bb 28 (.slice none 0 0) := box_grown hBX88 hOX88 hgX89
        have hCX89 := boxed_keep hCX88 hne7 hgX89
        obtain ⟨aX89, cX89, hvX89⟩ := oslice hOX89
        subst hvX89
        clear hgX89
        refine hKK.out _ _ ⟨(PP.out.pbox.next belX89).1, belX89⟩ (fun _ => ?_)
        clear hKK KK
        try dsimp only [getElem_toArray, getElem_cons_succ, getElem_cons_zero, Act.put]
        try simp only [setIfInBounds_toArray, set_cons_zero, set_cons_succ]
        refine wpAnyH_ready (rs := [8]) (by kernel_rfl) (by simp) (AllReadyH.cons rfl (fun KK hKK => ?_) AllReadyH.nil)
        refine step_append_vals rfl (.tmp 39) (.tmp 41) 26 rfl w2.heap.size 23 i0 (.slice none 0 0) 1 24 Try.underlying26 HI0.out hz0 hz1 hz2 rfl (by decide) (.slice aX89 (N - K) cX89) (N - K) us rfl hOX89 (some ⟨b7, 0, none⟩) 1 1 [(.slice (some ⟨X75.heap.size, 0, none⟩) 0 0)] rfl rfl (boxed_news hCX89) (fun u hu => by rw [List.mem_singleton.1 hu]; rfl) (by unfold maxLen; omega) (by omega) belX89.size ?_
        intro vX90 X90 hOX90 hgX90
        have belX90 : Below w2.heap.size w2 X90 := row_below belX89 belX89.size hOX89 hgX90
        have hBX90 : Boxed X90 bb 28 (.slice none 0 0) := box_grown hBX89 hOX89 hgX90
        obtain ⟨aX90, cX90, hvX90⟩ := oslice hOX90
        subst hvX90
        clear hgX90
        refine hKK.out _ _ ⟨(PP.out.pbox.next belX90).1, belX90⟩ (fun _ => ?_)
        clear hKK KK
        try dsimp only [getElem_toArray, getElem_cons_succ, getElem_cons_zero, Act.put]
        try simp only [setIfInBounds_toArray, set_cons_zero, set_cons_succ]
        refine wpAnyH_ready (rs := [13]) (by kernel_rfl) (by simp) (AllReadyH.cons rfl (fun KK hKK => ?_) AllReadyH.nil)
        refine step_append_vals rfl (.tmp 42) (.tmp 46) 26 rfl w2.heap.size 23 i0 (.slice none 0 0) 1 24 Try.underlying26 HI0.out hz0 hz1 hz2 rfl (by decide) (.slice aX90 (N - K + 1) cX90) (N - K + 1) (us ++ [(.slice (some ⟨X75.heap.size, 0, none⟩) 0 0)]) rfl hOX90 (some ⟨pb, po, none⟩) K cp vs rfl (by rw [hvs.out, Nat.mul_one]) (hvsn.out _ (BW2.out.trans (belX90.mono BW2.out.size))) hvs1 (by unfold maxLen; omega) (by omega) belX90.size ?_
        intro vX91 X91 hOX91 hgX91
        have belX91 : Below w2.heap.size w2 X91 := row_below belX90 belX90.size hOX90 hgX91
        have hBX91 : Boxed X91 bb 28 (.slice none 0 0) := box_grown hBX90 hOX90 hgX91
        obtain ⟨aX91, cX91, hvX91⟩ := oslice hOX91
        subst hvX91
        clear hgX91
        refine hKK.out _ _ ⟨(PP.out.pbox.next belX91).1, belX91⟩ (fun _ => ?_)
        clear hKK KK
        try dsimp only [getElem_toArray, getElem_cons_succ, getElem_cons_zero, Act.put]
        try simp only [setIfInBounds_toArray, set_cons_zero, set_cons_succ]
        refine wpAnyH_take (i := 14) (v := ?_) rfl (by kernel_rfl) (by kernel_rfl) (by kernel_rfl) (fun _ _ _ h => h) (Or.inl ⟨by kernel_rfl, ?_⟩) ⟨(PP.out.pbox.next belX91).1, belX91⟩ ?_
        rotate_left
        ·(intro w0 z; (try dsimp only at z); obtain ⟨c0, hLB⟩ := z; go_simp; try with_reducible rfl)
        try dsimp only [getElem_toArray, getElem_cons_succ, getElem_cons_zero, Act.put]
        try simp only [setIfInBounds_toArray, set_cons_zero, set_cons_succ]
        refine wpAnyH_ready (rs := [16]) (by kernel_rfl) (by simp) (AllReadyH.cons rfl (fun KK hKK => ?_) AllReadyH.nil)
        have hcb := hBX91.cell
        have hfb := hBX91.frozen
        go_simp
        obtain ⟨X92, hX92⟩ : ∃ X, X = X91.setCell ⟨bb, 0, none⟩ (.slice aX91 (N - K + 1 + K) cX91) := ⟨_, rfl⟩
        have belX92 : Below w2.heap.size w2 X92 := by rw [hX92]; exact belX91.setCell (p := ⟨bb, 0, none⟩) hbbw _
        have hfin := turned_end (hO := hOX91) (hB := hBX91) (read_turned (g := X75.heap.size) husr.out hvsr.out) (BW2.out.trans (belX92.mono BW2.out.size)) hX92 (by rw [turned_length, HN0.out]; omega)
        rw [← hX92]
        clear hX92
        refine hKK.out _ _ ⟨(PP.out.pbox.next belX92).1, belX92⟩ (fun _ => ?_)
        clear hKK KK
        refine wpAnyH_done (by kernel_rfl) ?_ _
        try dsimp only [getElem_toArray, getElem_cons_succ, getElem_cons_zero, Act.put]
        try simp only [setIfInBounds_toArray, set_cons_zero, set_cons_succ]
        have hp := PP.out.next belX92
        go_wp2_with (fail)
        go_meet
        exact ⟨bb, _, rfl, hp, hfin.1, hfin.2⟩
    ·go_simp
     obtain ⟨X93, hX93⟩ : ∃ X, X = W4.alloc (.cells #[] 3) := ⟨_, rfl⟩
     have belX93 : Below w2.heap.size w2 X93 := by rw [hX93]; exact belW4.alloc belW4.size _
     rw [← hX93]
     clear hX93
     refine hKK.out _ _ ⟨(PP.out.pbox.next belX93).1, belX93⟩ (fun _ => ?_)
     clear hKK KK
     try dsimp only [getElem_toArray, getElem_cons_succ, getElem_cons_zero, Act.put]
     try simp only [setIfInBounds_toArray, set_cons_zero, set_cons_succ]
     refine wpAnyH_ready (rs := [0, 7, 15]) (by kernel_rfl) (by simp) (AllReadyH.cons rfl (fun KK hKK => ?_) (AllReadyH.cons rfl (fun KK hKK => ?_) (AllReadyH.cons rfl (fun KK hKK => ?_) AllReadyH.nil)))
     ·go_simp
      obtain ⟨X94, hX94⟩ : ∃ X, X = X93.alloc (.cells #[] 23) := ⟨_, rfl⟩
      have belX94 : Below w2.heap.size w2 X94 := by rw [hX94]; exact belX93.alloc belX93.size _
      have hOX94 : X94.ownsRow w2.heap.size 23 1 (.slice (some ⟨X93.heap.size, 0, none⟩) 0 0) 0 [] := by rw [hX94]; exact rowS (World.alloc_heap_new _ _) belX93.size
      rw [← hX94]
      clear hX94
      refine hKK.out _ _ ⟨(PP.out.pbox.next belX94).1, belX94⟩ (fun _ => ?_)
      clear hKK KK
      try dsimp only [getElem_toArray, getElem_cons_succ, getElem_cons_zero, Act.put]
      try simp only [setIfInBounds_toArray, set_cons_zero, set_cons_succ]
      refine wpAnyH_ready (rs := [5, 7, 15]) (by kernel_rfl) (by simp) (AllReadyH.cons rfl (fun KK hKK => ?_) (AllReadyH.cons rfl (fun KK hKK => ?_) (AllReadyH.cons rfl (fun KK hKK => ?_) AllReadyH.nil)))
      ·refine step_append_vals rfl (.tmp 34) (.tmp 38) 26 rfl w2.heap.size 23 i0 (.slice none 0 0) 1 24 Try.underlying26 HI0.out hz0 hz1 hz2 rfl (by decide) (.slice (some ⟨X93.heap.size, 0, none⟩) 0 0) 0 [] rfl hOX94 (some ⟨pb, po + K, none⟩) (N - K) (cp - K) us rfl (by rw [hus.out, Nat.mul_one]) (husn.out _ (BW2.out.trans (belX94.mono BW2.out.size))) hus1 (by unfold maxLen; omega) (by omega) belX94.size ?_
       intro vX95 X95 hOX95 hgX95
       rw [Nat.zero_add, List.nil_append] at hOX95
       have belX95 : Below w2.heap.size w2 X95 := row_below belX94 belX94.size hOX94 hgX95
       obtain ⟨aX95, cX95, hvX95⟩ := oslice hOX95
       subst hvX95
       clear hgX95
       refine hKK.out _ _ ⟨(PP.out.pbox.next belX95).1, belX95⟩ (fun _ => ?_)
       clear hKK KK
       try dsimp only [getElem_toArray, getElem_cons_succ, getElem_cons_zero, Act.put]
       try simp only [setIfInBounds_toArray, set_cons_zero, set_cons_succ]
       refine wpAnyH_ready (rs := [7, 15]) (by kernel_rfl) (by simp) (AllReadyH.cons rfl (fun KK hKK => ?_) (AllReadyH.cons rfl (fun KK hKK => ?_) AllReadyH.nil))
       ·go_simp
        obtain ⟨X96, hX96⟩ : ∃ X, X = X95.alloc (.cells #[(.slice (some ⟨W4.heap.size, 0, none⟩) 0 0)] 23) := ⟨_, rfl⟩
        have belX96 : Below w2.heap.size w2 X96 := by rw [hX96]; exact belX95.alloc belX95.size _
        have hOX96 := hOX95.alloc (.cells #[(.slice (some ⟨W4.heap.size, 0, none⟩) 0 0)] 23)
        rw [← hX96] at hOX96
        obtain ⟨b7, hb7⟩ : ∃ b7, b7 = X95.heap.size := ⟨_, rfl⟩
        have hCX96 : Boxed X96 b7 23 (.slice (some ⟨W4.heap.size, 0, none⟩) 0 0) := by rw [hX96, hb7]; exact Boxed.new _ _ _
        have hne7 : ((.slice aX95 (N - K) cX95) : Value).ownBlock ≠ some b7 := by rw [hb7]; exact own_fresh hOX95
        rw [← hb7]
        clear hb7
        rw [← hX96]
        clear hX96
        refine hKK.out _ _ ⟨(PP.out.pbox.next belX96).1, belX96⟩ (fun _ => ?_)
        clear hKK KK
        try dsimp only [getElem_toArray, getElem_cons_succ, getElem_cons_zero, Act.put]
        try simp only [setIfInBounds_toArray, set_cons_zero, set_cons_succ]
        refine wpAnyH_ready (rs := [8, 15]) (by kernel_rfl) (by simp) (AllReadyH.cons rfl (fun KK hKK => ?_) (AllReadyH.cons rfl (fun KK hKK => ?_) AllReadyH.nil))
        ·refine step_append_vals rfl (.tmp 39) (.tmp 41) 26 rfl w2.heap.size 23 i0 (.slice none 0 0) 1 24 Try.underlying26 HI0.out hz0 hz1 hz2 rfl (by decide) (.slice aX95 (N - K) cX95) (N - K) us rfl hOX96 (some ⟨b7, 0, none⟩) 1 1 [(.slice (some ⟨W4.heap.size, 0, none⟩) 0 0)] rfl rfl (boxed_news hCX96) (fun u hu => by rw [List.mem_singleton.1 hu]; rfl) (by unfold maxLen; omega) (by omega) belX96.size ?_
         intro vX97 X97 hOX97 hgX97
         have belX97 : Below w2.heap.size w2 X97 := row_below belX96 belX96.size hOX96 hgX97
         obtain ⟨aX97, cX97, hvX97⟩ := oslice hOX97
         subst hvX97
         clear hgX97
         refine hKK.out _ _ ⟨(PP.out.pbox.next belX97).1, belX97⟩ (fun _ => ?_)
         clear hKK KK
         try dsimp only [getElem_toArray, getElem_cons_succ, getElem_cons_zero, Act.put]
         try simp only [setIfInBounds_toArray, set_cons_zero, set_cons_succ]
         refine wpAnyH_ready (rs := [13, 15]) (by kernel_rfl) (by simp) (AllReadyH.cons rfl (fun KK hKK => ?_) (AllReadyH.cons rfl (fun KK hKK => ?_) AllReadyH.nil))
         ·refine step_append_vals rfl (.tmp 42) (.tmp 46) 26 rfl w2.heap.size 23 i0 (.slice none 0 0) 1 24 Try.underlying26 HI0.out hz0 hz1 hz2 rfl (by decide) (.slice aX97 (N - K + 1) cX97) (N - K + 1) (us ++ [(.slice (some ⟨W4.heap.size, 0, none⟩) 0 0)]) rfl hOX97 (some ⟨pb, po, none⟩) K cp vs rfl (by rw [hvs.out, Nat.mul_one]) (hvsn.out _ (BW2.out.trans (belX97.mono BW2.out.size))) hvs1 (by unfold maxLen; omega) (by omega) belX97.size ?_
          intro vX98 X98 hOX98 hgX98
          have belX98 : Below w2.heap.size w2 X98 := row_below belX97 belX97.size hOX97 hgX98
          obtain ⟨aX98, cX98, hvX98⟩ := oslice hOX98
          subst hvX98
          clear hgX98
          refine hKK.out _ _ ⟨(PP.out.pbox.next belX98).1, belX98⟩ (fun _ => ?_)
          clear hKK KK
          try dsimp only [getElem_toArray, getElem_cons_succ, getElem_cons_zero, Act.put]
          try simp only [setIfInBounds_toArray, set_cons_zero, set_cons_succ]
          refine wpAnyH_take (i := 14) (v := ?_) rfl (by kernel_rfl) (by kernel_rfl) (by kernel_rfl) (fun _ _ _ h => h) (Or.inl ⟨by kernel_rfl, ?_⟩) ⟨(PP.out.pbox.next belX98).1, belX98⟩ ?_
          rotate_left
          ·(intro w0 z; (try dsimp only at z); obtain ⟨c0, hLB⟩ := z; go_simp; try with_reducible rfl)
          try dsimp only [getElem_toArray, getElem_cons_succ, getElem_cons_zero, Act.put]
          try simp only [setIfInBounds_toArray, set_cons_zero, set_cons_succ]
          refine wpAnyH_ready (rs := [15]) (by kernel_rfl) (by simp) (AllReadyH.cons rfl (fun KK hKK => ?_) AllReadyH.nil)
          go_simp
          obtain ⟨X99, hX99⟩ : ∃ X, X = X98.alloc (.cells #[.slice none 0 0] 28) := ⟨_, rfl⟩
          have belX99 : Below w2.heap.size w2 X99 := by rw [hX99]; exact belX98.alloc belX98.size _
          have hOX99 := hOX98.alloc (.cells #[.slice none 0 0] 28)
          rw [← hX99] at hOX99
          obtain ⟨bb, hbb⟩ : ∃ bb, bb = X98.heap.size := ⟨_, rfl⟩
          have hbbw : w2.heap.size ≤ bb := by rw [hbb]; exact belX98.size
          have hBX99 : Boxed X99 bb 28 (.slice none 0 0) := by rw [hX99, hbb]; exact Boxed.new _ _ _
          rw [← hbb]
          clear hbb
          rw [← hX99]
          clear hX99
          refine hKK.out _ _ ⟨(PP.out.pbox.next belX99).1, belX99⟩ (fun _ => ?_)
          clear hKK KK
          try dsimp only [getElem_toArray, getElem_cons_succ, getElem_cons_zero, Act.put]
          try simp only [setIfInBounds_toArray, set_cons_zero, set_cons_succ]
          refine wpAnyH_ready (rs := [16]) (by kernel_rfl) (by simp) (AllReadyH.cons rfl (fun KK hKK => ?_) AllReadyH.nil)
          have hcb := hBX99.cell
          have hfb := hBX99.frozen
          go_simp
          obtain ⟨X100, hX100⟩ : ∃ X, X = X99.setCell ⟨bb, 0, none⟩ (.slice aX98 (N - K + 1 + K) cX98) := ⟨_, rfl⟩
          have belX100 : Below w2.heap.size w2 X100 := by rw [hX100]; exact belX99.setCell (p := ⟨bb, 0, none⟩) hbbw _
          have hfin := turned_end (hO := hOX99) (hB := hBX99) (read_turned (g := W4.heap.size) husr.out hvsr.out) (BW2.out.trans (belX100.mono BW2.out.size)) hX100 (by rw [turned_length, HN0.out]; omega)
          rw [← hX100]
          clear hX100
          refine hKK.out _ _ ⟨(PP.out.pbox.next belX100).1, belX100⟩ (fun _ => ?_)
          clear hKK KK
          refine wpAnyH_done (by kernel_rfl) ?_ _
          try dsimp only [getElem_toArray, getElem_cons_succ, getElem_cons_zero, Act.put]
          try simp only [setIfInBounds_toArray, set_cons_zero, set_cons_succ]
          have hp := PP.out.next belX100
          go_wp2_with (fail)
          go_meet
          exact ⟨bb, _, rfl, hp, hfin.1, hfin.2⟩
         ·go_simp
          obtain ⟨X101, hX101⟩ : ∃ X, X = X97.alloc (.cells #[.slice none 0 0] 28) := ⟨_, rfl⟩
          have belX101 : Below w2.heap.size w2 X101 := by rw [hX101]; exact belX97.alloc belX97.size _
          have hOX101 := hOX97.alloc (.cells #[.slice none 0 0] 28)
          rw [← hX101] at hOX101
          obtain ⟨bb, hbb⟩ : ∃ bb, bb = X97.heap.size := ⟨_, rfl⟩
          have hbbw : w2.heap.size ≤ bb := by rw [hbb]; exact belX97.size
          have hBX101 : Boxed X101 bb 28 (.slice none 0 0) := by rw [hX101, hbb]; exact Boxed.new _ _ _
          rw [← hbb]
          clear hbb
          rw [← hX101]
          clear hX101
          refine hKK.out _ _ ⟨(PP.out.pbox.next belX101).1, belX101⟩ (fun _ => ?_)
          clear hKK KK
          try dsimp only [getElem_toArray, getElem_cons_succ, getElem_cons_zero, Act.put]
          try simp only [setIfInBounds_toArray, set_cons_zero, set_cons_succ]
          refine wpAnyH_ready (rs := [13]) (by kernel_rfl) (by simp) (AllReadyH.cons rfl (fun KK hKK => ?_) AllReadyH.nil)
          refine step_append_vals rfl (.tmp 42) (.tmp 46) 26 rfl w2.heap.size 23 i0 (.slice none 0 0) 1 24 Try.underlying26 HI0.out hz0 hz1 hz2 rfl (by decide) (.slice aX97 (N - K + 1) cX97) (N - K + 1) (us ++ [(.slice (some ⟨W4.heap.size, 0, none⟩) 0 0)]) rfl hOX101 (some ⟨pb, po, none⟩) K cp vs rfl (by rw [hvs.out, Nat.mul_one]) (hvsn.out _ (BW2.out.trans (belX101.mono BW2.out.size))) hvs1 (by unfold maxLen; omega) (by omega) belX101.size ?_
          intro vX102 X102 hOX102 hgX102
          have belX102 : Below w2.heap.size w2 X102 := row_below belX101 belX101.size hOX101 hgX102
          have hBX102 : Boxed X102 bb 28 (.slice none 0 0) := box_grown hBX101 hOX101 hgX102
          obtain ⟨aX102, cX102, hvX102⟩ := oslice hOX102
          subst hvX102
          clear hgX102
          refine hKK.out _ _ ⟨(PP.out.pbox.next belX102).1, belX102⟩ (fun _ => ?_)
          clear hKK KK
          try dsimp only [getElem_toArray, getElem_cons_succ, getElem_cons_zero, Act.put]
          try simp only [setIfInBounds_toArray, set_cons_zero, set_cons_succ]
          refine wpAnyH_take (i := 14) (v := ?_) rfl (by kernel_rfl) (by kernel_rfl) (by kernel_rfl) (fun _ _ _ h => h) (Or.inl ⟨by kernel_rfl, ?_⟩) ⟨(PP.out.pbox.next belX102).1, belX102⟩ ?_
          rotate_left
          ·(intro w0 z; (try dsimp only at z); obtain ⟨c0, hLB⟩ := z; go_simp; try with_reducible rfl)
          try dsimp only [getElem_toArray, getElem_cons_succ, getElem_cons_zero, Act.put]
          try simp only [setIfInBounds_toArray, set_cons_zero, set_cons_succ]
          refine wpAnyH_ready (rs := [16]) (by kernel_rfl) (by simp) (AllReadyH.cons rfl (fun KK hKK => ?_) AllReadyH.nil)
          have hcb := hBX102.cell
          have hfb := hBX102.frozen
          go_simp
          obtain ⟨X103, hX103⟩ : ∃ X, X = X102.setCell ⟨bb, 0, none⟩ (.slice aX102 (N - K + 1 + K) cX102) := ⟨_, rfl⟩
          have belX103 : Below w2.heap.size w2 X103 := by rw [hX103]; exact belX102.setCell (p := ⟨bb, 0, none⟩) hbbw _
          have hfin := turned_end (hO := hOX102) (hB := hBX102) (read_turned (g := W4.heap.size) husr.out hvsr.out) (BW2.out.trans (belX103.mono BW2.out.size)) hX103 (by rw [turned_length, HN0.out]; omega)
          rw [← hX103]
          clear hX103
          refine hKK.out _ _ ⟨(PP.out.pbox.next belX103).1, belX103⟩ (fun _ => ?_)
          clear hKK KK
          refine wpAnyH_done (by kernel_rfl) ?_ _
          try dsimp only [getElem_toArray, getElem_cons_succ, getElem_cons_zero, Act.put]
          try simp only [setIfInBounds_toArray, set_cons_zero, set_cons_succ]
          have hp := PP.out.next belX103
          go_wp2_with (fail)
          go_meet
          exact ⟨bb, _, rfl, hp, hfin.1, hfin.2⟩
        ·go_simp
         obtain ⟨X104, hX104⟩ : ∃ X, X = X96.alloc (.cells #[.slice none 0 0] 28) := ⟨_, rfl⟩
         have belX104 : Below w2.heap.size w2 X104 := by rw [hX104]; exact belX96.alloc belX96.size _
         have hOX104 := hOX96.alloc (.cells #[.slice none 0 0] 28)
         rw [← hX104] at hOX104
         have hCX104 : Boxed X104 b7 23 (.slice (some ⟨W4.heap.size, 0, none⟩) 0 0) := by rw [hX104]; exact hCX96.alloc _
         obtain ⟨bb, hbb⟩ : ∃ bb, bb = X96.heap.size := ⟨_, rfl⟩
         have hbbw : w2.heap.size ≤ bb := by rw [hbb]; exact belX96.size
         have hBX104 : Boxed X104 bb 28 (.slice none 0 0) := by rw [hX104, hbb]; exact Boxed.new _ _ _
         rw [← hbb]
         clear hbb
         rw [← hX104]
         clear hX104
         refine hKK.out _ _ ⟨(PP.out.pbox.next belX104).1, belX104⟩ (fun _ => ?_)
         clear hKK KK
         try dsimp only [getElem_toArray, getElem_cons_succ, getElem_cons_zero, Act.put]
         try simp only [setIfInBounds_toArray, set_cons_zero, set_cons_succ]
         refine wpAnyH_ready (rs := [8]) (by kernel_rfl) (by simp) (AllReadyH.cons rfl (fun KK hKK => ?_) AllReadyH.nil)
         refine step_append_vals rfl (.tmp 39) (.tmp 41) 26 rfl w2.heap.size 23 i0 (.slice none 0 0) 1 24 Try.underlying26 HI0.out hz0 hz1 hz2 rfl (by decide) (.slice aX95 (N - K) cX95) (N - K) us rfl hOX104 (some ⟨b7, 0, none⟩) 1 1 [(.slice (some ⟨W4.heap.size, 0, none⟩) 0 0)] rfl rfl (boxed_news hCX104) (fun u hu => by rw [List.mem_singleton.1 hu]; rfl) (by unfold maxLen; omega) (by omega) belX104.size ?_
         intro vX105 X105 hOX105 hgX105
         have belX105 : Below w2.heap.size w2 X105 := row_below belX104 belX104.size hOX104 hgX105
         have hBX105 : Boxed X105 bb 28 (.slice none 0 0) := box_grown hBX104 hOX104 hgX105
         obtain ⟨aX105, cX105, hvX105⟩ := oslice hOX105
         subst hvX105
         clear hgX105
         refine hKK.out _ _ ⟨(PP.out.pbox.next belX105).1, belX105⟩ (fun _ => ?_)
         clear hKK KK
         try dsimp only [getElem_toArray, getElem_cons_succ, getElem_cons_zero, Act.put]
         try simp only [setIfInBounds_toArray, set_cons_zero, set_cons_succ]
         refine wpAnyH_ready (rs := [13]) (by kernel_rfl) (by simp) (AllReadyH.cons rfl (fun KK hKK => ?_) AllReadyH.nil)
         refine step_append_vals rfl (.tmp 42) (.tmp 46) 26 rfl w2.heap.size 23 i0 (.slice none 0 0) 1 24 Try.underlying26 HI0.out hz0 hz1 hz2 rfl (by decide) (.slice aX105 (N - K + 1) cX105) (N - K + 1) (us ++ [(.slice (some ⟨W4.heap.size, 0, none⟩) 0 0)]) rfl hOX105 (some ⟨pb, po, none⟩) K cp vs rfl (by rw [hvs.out, Nat.mul_one]) (hvsn.out _ (BW2.out.trans (belX105.mono BW2.out.size))) hvs1 (by unfold maxLen; omega) (by omega) belX105.size ?_
         intro vX106 X106 hOX106 hgX106
         have belX106 : Below w2.heap.size w2 X106 := row_below belX105 belX105.size hOX105 hgX106
         have hBX106 : Boxed X106 bb 28 (.slice none 0 0) := box_grown hBX105 hOX105 hgX106
         obtain ⟨aX106, cX106, hvX106⟩ := oslice hOX106
         subst hvX106
         clear hgX106
         refine hKK.out _ _ ⟨(PP.out.pbox.next belX106).1, belX106⟩ (fun _ => ?_)
         clear hKK KK
         try dsimp only [getElem_toArray, getElem_cons_succ, getElem_cons_zero, Act.put]
         try simp only [setIfInBounds_toArray, set_cons_zero, set_cons_succ]
         refine wpAnyH_take (i := 14) (v := ?_) rfl (by kernel_rfl) (by kernel_rfl) (by kernel_rfl) (fun _ _ _ h => h) (Or.inl ⟨by kernel_rfl, ?_⟩) ⟨(PP.out.pbox.next belX106).1, belX106⟩ ?_
         rotate_left
         ·(intro w0 z; (try dsimp only at z); obtain ⟨c0, hLB⟩ := z; go_simp; try with_reducible rfl)
         try dsimp only [getElem_toArray, getElem_cons_succ, getElem_cons_zero, Act.put]
         try simp only [setIfInBounds_toArray, set_cons_zero, set_cons_succ]
         refine wpAnyH_ready (rs := [16]) (by kernel_rfl) (by simp) (AllReadyH.cons rfl (fun KK hKK => ?_) AllReadyH.nil)
         have hcb := hBX106.cell
         have hfb := hBX106.frozen
         go_simp
         obtain ⟨X107, hX107⟩ : ∃ X, X = X106.setCell ⟨bb, 0, none⟩ (.slice aX106 (N - K + 1 + K) cX106) := ⟨_, rfl⟩
         have belX107 : Below w2.heap.size w2 X107 := by rw [hX107]; exact belX106.setCell (p := ⟨bb, 0, none⟩) hbbw _
         have hfin := turned_end (hO := hOX106) (hB := hBX106) (read_turned (g := W4.heap.size) husr.out hvsr.out) (BW2.out.trans (belX107.mono BW2.out.size)) hX107 (by rw [turned_length, HN0.out]; omega)
         rw [← hX107]
         clear hX107
         refine hKK.out _ _ ⟨(PP.out.pbox.next belX107).1, belX107⟩ (fun _ => ?_)
         clear hKK KK
         refine wpAnyH_done (by kernel_rfl) ?_ _
         try dsimp only [getElem_toArray, getElem_cons_succ, getElem_cons_zero, Act.put]
         try simp only [setIfInBounds_toArray, set_cons_zero, set_cons_succ]
         have hp := PP.out.next belX107
         go_wp2_with (fail)
         go_meet
         exact ⟨bb, _, rfl, hp, hfin.1, hfin.2⟩
       ·go_simp
        obtain ⟨X108, hX108⟩ : ∃ X, X = X95.alloc (.cells #[.slice none 0 0] 28) := ⟨_, rfl⟩
        have belX108 : Below w2.heap.size w2 X108 := by rw [hX108]; exact belX95.alloc belX95.size _
        have hOX108 := hOX95.alloc (.cells #[.slice none 0 0] 28)
        rw [← hX108] at hOX108
        obtain ⟨bb, hbb⟩ : ∃ bb, bb = X95.heap.size := ⟨_, rfl⟩
        have hbbw : w2.heap.size ≤ bb := by rw [hbb]; exact belX95.size
        have hBX108 : Boxed X108 bb 28 (.slice none 0 0) := by rw [hX108, hbb]; exact Boxed.new _ _ _
        rw [← hbb]
        clear hbb
        rw [← hX108]
        clear hX108
        refine hKK.out _ _ ⟨(PP.out.pbox.next belX108).1, belX108⟩ (fun _ => ?_)
        clear hKK KK
        try dsimp only [getElem_toArray, getElem_cons_succ, getElem_cons_zero, Act.put]
        try simp only [setIfInBounds_toArray, set_cons_zero, set_cons_succ]
        refine wpAnyH_ready (rs := [7]) (by kernel_rfl) (by simp) (AllReadyH.cons rfl (fun KK hKK => ?_) AllReadyH.nil)
        go_simp
        obtain ⟨X109, hX109⟩ : ∃ X, X = X108.alloc (.cells #[(.slice (some ⟨W4.heap.size, 0, none⟩) 0 0)] 23) := ⟨_, rfl⟩
        have belX109 : Below w2.heap.size w2 X109 := by rw [hX109]; exact belX108.alloc belX108.size _
        have hOX109 := hOX108.alloc (.cells #[(.slice (some ⟨W4.heap.size, 0, none⟩) 0 0)] 23)
        rw [← hX109] at hOX109
        have hBX109 : Boxed X109 bb 28 (.slice none 0 0) := by rw [hX109]; exact hBX108.alloc _
        obtain ⟨b7, hb7⟩ : ∃ b7, b7 = X108.heap.size := ⟨_, rfl⟩
        have hCX109 : Boxed X109 b7 23 (.slice (some ⟨W4.heap.size, 0, none⟩) 0 0) := by rw [hX109, hb7]; exact Boxed.new _ _ _
        have hne7 : ((.slice aX95 (N - K) cX95) : Value).ownBlock ≠ some b7 := by rw [hb7]; exact own_fresh hOX108
        rw [← hb7]
        clear hb7
        rw [← hX109]
        clear hX109
        refine hKK.out _ _ ⟨(PP.out.pbox.next belX109).1, belX109⟩ (fun _ => ?_)
        clear hKK KK
        try dsimp only [getElem_toArray, getElem_cons_succ, getElem_cons_zero, Act.put]
        try simp only [setIfInBounds_toArray, set_cons_zero, set_cons_succ]
        refine wpAnyH_ready (rs := [8]) (by kernel_rfl) (by simp) (AllReadyH.cons rfl (fun KK hKK => ?_) AllReadyH.nil)
        refine step_append_vals rfl (.tmp 39) (.tmp 41) 26 rfl w2.heap.size 23 i0 (.slice none 0 0) 1 24 Try.underlying26 HI0.out hz0 hz1 hz2 rfl (by decide) (.slice aX95 (N - K) cX95) (N - K) us rfl hOX109 (some ⟨b7, 0, none⟩) 1 1 [(.slice (some ⟨W4.heap.size, 0, none⟩) 0 0)] rfl rfl (boxed_news hCX109) (fun u hu => by rw [List.mem_singleton.1 hu]; rfl) (by unfold maxLen; omega) (by omega) belX109.size ?_
        intro vX110 X110 hOX110 hgX110
        have belX110 : Below w2.heap.size w2 X110 := row_below belX109 belX109.size hOX109 hgX110
        have hBX110 : Boxed X110 bb 28 (.slice none 0 0) := box_grown hBX109 hOX109 hgX110
        obtain ⟨aX110, cX110, hvX110⟩ := oslice hOX110
        subst hvX110
        clear hgX110
        refine hKK.out _ _ ⟨(PP.out.pbox.next belX110).1, belX110⟩ (fun _ => ?_)
        clear hKK KK
        try dsimp only [getElem_toArray, getElem_cons_succ, getElem_cons_zero, Act.put]
        try simp only [setIfInBounds_toArray, set_cons_zero, set_cons_succ]
        refine wpAnyH_ready (rs := [13]) (by kernel_rfl) (by simp) (AllReadyH.cons rfl (fun KK hKK => ?_) AllReadyH.nil)
        refine step_append_vals rfl (.tmp 42) (.tmp 46) 26 rfl w2.heap.size 23 i0 (.slice none 0 0) 1 24 Try.underlying26 HI0.out hz0 hz1 hz2 rfl (by decide) (.slice aX110 (N - K + 1) cX110) (N - K + 1) (us ++ [(.slice (some ⟨W4.heap.size, 0, none⟩) 0 0)]) rfl hOX110 (some ⟨pb, po, none⟩) K cp vs rfl (by rw [hvs.out, Nat.mul_one]) (hvsn.out _ (BW2.out.trans (belX110.mono BW2.out.size))) hvs1 (by unfold maxLen; omega) (by omega) belX110.size ?_
        intro vX111 X111 hOX111 hgX111
        have belX111 : Below w2.heap.size w2 X111 := row_below belX110 belX110.size hOX110 hgX111
        have hBX111 : Boxed X111 bb 28 (.slice none 0 0) := box_grown hBX110 hOX110 hgX111
        obtain ⟨aX111, cX111, hvX111⟩ := oslice hOX111
        subst hvX111
        clear hgX111
        refine hKK.out _ _ ⟨(PP.out.pbox.next belX111).1, belX111⟩ (fun _ => ?_)
        clear hKK KK
        try dsimp only [getElem_toArray, getElem_cons_succ, getElem_cons_zero, Act.put]
        try simp only [setIfInBounds_toArray, set_cons_zero, set_cons_succ]
        refine wpAnyH_take (i := 14) (v := ?_) rfl (by kernel_rfl) (by kernel_rfl) (by kernel_rfl) (fun _ _ _ h => h) (Or.inl ⟨by kernel_rfl, ?_⟩) ⟨(PP.out.pbox.next belX111).1, belX111⟩ ?_
        rotate_left
        ·(intro w0 z; (try dsimp only at z); obtain ⟨c0, hLB⟩ := z; go_simp; try with_reducible rfl)
        try dsimp only [getElem_toArray, getElem_cons_succ, getElem_cons_zero, Act.put]
        try simp only [setIfInBounds_toArray, set_cons_zero, set_cons_succ]
        refine wpAnyH_ready (rs := [16]) (by kernel_rfl) (by simp) (AllReadyH.cons rfl (fun KK hKK => ?_) AllReadyH.nil)
        have hcb := hBX111.cell
        have hfb := hBX111.frozen
        go_simp
        obtain ⟨X112, hX112⟩ : ∃ X, X = X111.setCell ⟨bb, 0, none⟩ (.slice aX111 (N - K + 1 + K) cX111) := ⟨_, rfl⟩
        have belX112 : Below w2.heap.size w2 X112 := by rw [hX112]; exact belX111.setCell (p := ⟨bb, 0, none⟩) hbbw _
        have hfin := turned_end (hO := hOX111) (hB := hBX111) (read_turned (g := W4.heap.size) husr.out hvsr.out) (BW2.out.trans (belX112.mono BW2.out.size)) hX112 (by rw [turned_length, HN0.out]; omega)
        rw [← hX112]
        clear hX112
        refine hKK.out _ _ ⟨(PP.out.pbox.next belX112).1, belX112⟩ (fun _ => ?_)
        clear hKK KK
        refine wpAnyH_done (by kernel_rfl) ?_ _
        try dsimp only [getElem_toArray, getElem_cons_succ, getElem_cons_zero, Act.put]
        try simp only [setIfInBounds_toArray, set_cons_zero, set_cons_succ]
        have hp := PP.out.next belX112
        go_wp2_with (fail)
        go_meet
        exact ⟨bb, _, rfl, hp, hfin.1, hfin.2⟩
      ·go_simp
       obtain ⟨X113, hX113⟩ : ∃ X, X = X94.alloc (.cells #[(.slice (some ⟨W4.heap.size, 0, none⟩) 0 0)] 23) := ⟨_, rfl⟩
       have belX113 : Below w2.heap.size w2 X113 := by rw [hX113]; exact belX94.alloc belX94.size _
       have hOX113 := hOX94.alloc (.cells #[(.slice (some ⟨W4.heap.size, 0, none⟩) 0 0)] 23)
       rw [← hX113] at hOX113
       obtain ⟨b7, hb7⟩ : ∃ b7, b7 = X94.heap.size := ⟨_, rfl⟩
       have hCX113 : Boxed X113 b7 23 (.slice (some ⟨W4.heap.size, 0, none⟩) 0 0) := by rw [hX113, hb7]; exact Boxed.new _ _ _
       have hne7 : ((.slice (some ⟨X93.heap.size, 0, none⟩) 0 0) : Value).ownBlock ≠ some b7 := by rw [hb7]; exact own_fresh hOX94
       rw [← hb7]
       clear hb7
       rw [← hX113]
       clear hX113
       refine hKK.out _ _ ⟨(PP.out.pbox.next belX113).1, belX113⟩ (fun _ => ?_)
       clear hKK KK
       try dsimp only [getElem_toArray, getElem_cons_succ, getElem_cons_zero, Act.put]
       try simp only [setIfInBounds_toArray, set_cons_zero, set_cons_succ]
       refine wpAnyH_ready (rs := [5, 15]) (by kernel_rfl) (by simp) (AllReadyH.cons rfl (fun KK hKK => ?_) (AllReadyH.cons rfl (fun KK hKK => ?_) AllReadyH.nil))
       ·refine step_append_vals rfl (.tmp 34) (.tmp 38) 26 rfl w2.heap.size 23 i0 (.slice none 0 0) 1 24 Try.underlying26 HI0.out hz0 hz1 hz2 rfl (by decide) (.slice (some ⟨X93.heap.size, 0, none⟩) 0 0) 0 [] rfl hOX113 (some ⟨pb, po + K, none⟩) (N - K) (cp - K) us rfl (by rw [hus.out, Nat.mul_one]) (husn.out _ (BW2.out.trans (belX113.mono BW2.out.size))) hus1 (by unfold maxLen; omega) (by omega) belX113.size ?_
        intro vX114 X114 hOX114 hgX114
        rw [Nat.zero_add, List.nil_append] at hOX114
        have belX114 : Below w2.heap.size w2 X114 := row_below belX113 belX113.size hOX113 hgX114
        have hCX114 := boxed_keep hCX113 hne7 hgX114
        obtain ⟨aX114, cX114, hvX114⟩ := oslice hOX114
        subst hvX114
        clear hgX114
        refine hKK.out _ _ ⟨(PP.out.pbox.next belX114).1, belX114⟩ (fun _ => ?_)
        clear hKK KK
        try dsimp only [getElem_toArray, getElem_cons_succ, getElem_cons_zero, Act.put]
        try simp only [setIfInBounds_toArray, set_cons_zero, set_cons_succ]
        refine wpAnyH_ready (rs := [8, 15]) (by kernel_rfl) (by simp) (AllReadyH.cons rfl (fun KK hKK => ?_) (AllReadyH.cons rfl (fun KK hKK => ?_) AllReadyH.nil))
        ·refine step_append_vals rfl (.tmp 39) (.tmp 41) 26 rfl w2.heap.size 23 i0 (.slice none 0 0) 1 24 Try.underlying26 HI0.out hz0 hz1 hz2 rfl (by decide) (.slice aX114 (N - K) cX114) (N - K) us rfl hOX114 (some ⟨b7, 0, none⟩) 1 1 [(.slice (some ⟨W4.heap.size, 0, none⟩) 0 0)] rfl rfl (boxed_news hCX114) (fun u hu => by rw [List.mem_singleton.1 hu]; rfl) (by unfold maxLen; omega) (by omega) belX114.size ?_
         intro vX115 X115 hOX115 hgX115
         have belX115 : Below w2.heap.size w2 X115 := row_below belX114 belX114.size hOX114 hgX115
         obtain ⟨aX115, cX115, hvX115⟩ := oslice hOX115
         subst hvX115
         clear hgX115
         refine hKK.out _ _ ⟨(PP.out.pbox.next belX115).1, belX115⟩ (fun _ => ?_)
         clear hKK KK
         try dsimp only [getElem_toArray, getElem_cons_succ, getElem_cons_zero, Act.put]
         try simp only [setIfInBounds_toArray, set_cons_zero, set_cons_succ]
         refine wpAnyH_ready (rs := [13, 15]) (by kernel_rfl) (by simp) (AllReadyH.cons rfl (fun KK hKK => ?_) (AllReadyH.cons rfl (fun KK hKK => ?_) AllReadyH.nil))
         ·refine step_append_vals rfl (.tmp 42) (.tmp 46) 26 rfl w2.heap.size 23 i0 (.slice none 0 0) 1 24 Try.underlying26 HI0.out hz0 hz1 hz2 rfl (by decide) (.slice aX115 (N - K + 1) cX115) (N - K + 1) (us ++ [(.slice (some ⟨W4.heap.size, 0, none⟩) 0 0)]) rfl hOX115 (some ⟨pb, po, none⟩) K cp vs rfl (by rw [hvs.out, Nat.mul_one]) (hvsn.out _ (BW2.out.trans (belX115.mono BW2.out.size))) hvs1 (by unfold maxLen; omega) (by omega) belX115.size ?_
          intro vX116 X116 hOX116 hgX116
          have belX116 : Below w2.heap.size w2 X116 := row_below belX115 belX115.size hOX115 hgX116
          obtain ⟨aX116, cX116, hvX116⟩ := oslice hOX116
          subst hvX116
          clear hgX116
          refine hKK.out _ _ ⟨(PP.out.pbox.next belX116).1, belX116⟩ (fun _ => ?_)
          clear hKK KK
          try dsimp only [getElem_toArray, getElem_cons_succ, getElem_cons_zero, Act.put]
          try simp only [setIfInBounds_toArray, set_cons_zero, set_cons_succ]
          refine wpAnyH_take (i := 14) (v := ?_) rfl (by kernel_rfl) (by kernel_rfl) (by kernel_rfl) (fun _ _ _ h => h) (Or.inl ⟨by kernel_rfl, ?_⟩) ⟨(PP.out.pbox.next belX116).1, belX116⟩ ?_
          rotate_left
          ·(intro w0 z; (try dsimp only at z); obtain ⟨c0, hLB⟩ := z; go_simp; try with_reducible rfl)
          try dsimp only [getElem_toArray, getElem_cons_succ, getElem_cons_zero, Act.put]
          try simp only [setIfInBounds_toArray, set_cons_zero, set_cons_succ]
          refine wpAnyH_ready (rs := [15]) (by kernel_rfl) (by simp) (AllReadyH.cons rfl (fun KK hKK => ?_) AllReadyH.nil)
          go_simp
          obtain ⟨X117, hX117⟩ : ∃ X, X = X116.alloc (.cells #[.slice none 0 0] 28) := ⟨_, rfl⟩
          have belX117 : Below w2.heap.size w2 X117 := by rw [hX117]; exact belX116.alloc belX116.size _
          have hOX117 := hOX116.alloc (.cells #[.slice none 0 0] 28)
          rw [← hX117] at hOX117
          obtain ⟨bb, hbb⟩ : ∃ bb, bb = X116.heap.size := ⟨_, rfl⟩
          have hbbw : w2.heap.size ≤ bb := by rw [hbb]; exact belX116.size
          have hBX117 : Boxed X117 bb 28 (.slice none 0 0) := by rw [hX117, hbb]; exact Boxed.new _ _ _
          rw [← hbb]
          clear hbb
          rw [← hX117]
          clear hX117
          refine hKK.out _ _ ⟨(PP.out.pbox.next belX117).1, belX117⟩ (fun _ => ?_)
          clear hKK KK
          try dsimp only [getElem_toArray, getElem_cons_succ, getElem_cons_zero, Act.put]
          try simp only [setIfInBounds_toArray, set_cons_zero, set_cons_succ]
          refine wpAnyH_ready (rs := [16]) (by kernel_rfl) (by simp) (AllReadyH.cons rfl (fun KK hKK => ?_) AllReadyH.nil)
          have hcb := hBX117.cell
          have hfb := hBX117.frozen
          go_simp
          obtain ⟨X118, hX118⟩ : ∃ X, X = X117.setCell ⟨bb, 0, none⟩ (.slice aX116 (N - K + 1 + K) cX116) := ⟨_, rfl⟩
          have belX118 : Below w2.heap.size w2 X118 := by rw [hX118]; exact belX117.setCell (p := ⟨bb, 0, none⟩) hbbw _
          have hfin := turned_end (hO := hOX117) (hB := hBX117) (read_turned (g := W4.heap.size) husr.out hvsr.out) (BW2.out.trans (belX118.mono BW2.out.size)) hX118 (by rw [turned_length, HN0.out]; omega)
          rw [← hX118]
          clear hX118
          refine hKK.out _ _ ⟨(PP.out.pbox.next belX118).1, belX118⟩ (fun _ => ?_)
          clear hKK KK
          refine wpAnyH_done (by kernel_rfl) ?_ _
          try dsimp only [getElem_toArray, getElem_cons_succ, getElem_cons_zero, Act.put]
          try simp only [setIfInBounds_toArray, set_cons_zero, set_cons_succ]
          have hp := PP.out.next belX118
          go_wp2_with (fail)
          go_meet
          exact ⟨bb, _, rfl, hp, hfin.1, hfin.2⟩
         ·go_simp
          obtain ⟨X119, hX119⟩ : ∃ X, X = X115.alloc (.cells #[.slice none 0 0] 28) := ⟨_, rfl⟩
          have belX119 : Below w2.heap.size w2 X119 := by rw [hX119]; exact belX115.alloc belX115.size _
          have hOX119 := hOX115.alloc (.cells #[.slice none 0 0] 28)
          rw [← hX119] at hOX119
          obtain ⟨bb, hbb⟩ : ∃ bb, bb = X115.heap.size := ⟨_, rfl⟩
          have hbbw : w2.heap.size ≤ bb := by rw [hbb]; exact belX115.size
          have hBX119 : Boxed X119 bb 28 (.slice none 0 0) := by rw [hX119, hbb]; exact Boxed.new _ _ _
          rw [← hbb]
          clear hbb
          rw [← hX119]
          clear hX119
          refine hKK.out _ _ ⟨(PP.out.pbox.next belX119).1, belX119⟩ (fun _ => ?_)
          clear hKK KK
          try dsimp only [getElem_toArray, getElem_cons_succ, getElem_cons_zero, Act.put]
          try simp only [setIfInBounds_toArray, set_cons_zero, set_cons_succ]
          refine wpAnyH_ready (rs := [13]) (by kernel_rfl) (by simp) (AllReadyH.cons rfl (fun KK hKK => ?_) AllReadyH.nil)
          refine step_append_vals rfl (.tmp 42) (.tmp 46) 26 rfl w2.heap.size 23 i0 (.slice none 0 0) 1 24 Try.underlying26 HI0.out hz0 hz1 hz2 rfl (by decide) (.slice aX115 (N - K + 1) cX115) (N - K + 1) (us ++ [(.slice (some ⟨W4.heap.size, 0, none⟩) 0 0)]) rfl hOX119 (some ⟨pb, po, none⟩) K cp vs rfl (by rw [hvs.out, Nat.mul_one]) (hvsn.out _ (BW2.out.trans (belX119.mono BW2.out.size))) hvs1 (by unfold maxLen; omega) (by omega) belX119.size ?_
          intro vX120 X120 hOX120 hgX120
          have belX120 : Below w2.heap.size w2 X120 := row_below belX119 belX119.size hOX119 hgX120
          have hBX120 : Boxed X120 bb 28 (.slice none 0 0) := box_grown hBX119 hOX119 hgX120
          obtain ⟨aX120, cX120, hvX120⟩ := oslice hOX120
          subst hvX120
          clear hgX120
          refine hKK.out _ _ ⟨(PP.out.pbox.next belX120).1, belX120⟩ (fun _ => ?_)
          clear hKK KK
          try dsimp only [getElem_toArray, getElem_cons_succ, getElem_cons_zero, Act.put]
          try simp only [setIfInBounds_toArray, set_cons_zero, set_cons_succ]
          refine wpAnyH_take (i := 14) (v := ?_) rfl (by kernel_rfl) (by kernel_rfl) (by kernel_rfl) (fun _ _ _ h => h) (Or.inl ⟨by kernel_rfl, ?_⟩) ⟨(PP.out.pbox.next belX120).1, belX120⟩ ?_
          rotate_left
          ·(intro w0 z; (try dsimp only at z); obtain ⟨c0, hLB⟩ := z; go_simp; try with_reducible rfl)
          try dsimp only [getElem_toArray, getElem_cons_succ, getElem_cons_zero, Act.put]
          try simp only [setIfInBounds_toArray, set_cons_zero, set_cons_succ]
          refine wpAnyH_ready (rs := [16]) (by kernel_rfl) (by simp) (AllReadyH.cons rfl (fun KK hKK => ?_) AllReadyH.nil)
          have hcb := hBX120.cell
          have hfb := hBX120.frozen
          go_simp
          obtain ⟨X121, hX121⟩ : ∃ X, X = X120.setCell ⟨bb, 0, none⟩ (.slice aX120 (N - K + 1 + K) cX120) := ⟨_, rfl⟩
          have belX121 : Below w2.heap.size w2 X121 := by rw [hX121]; exact belX120.setCell (p := ⟨bb, 0, none⟩) hbbw _
          have hfin := turned_end (hO := hOX120) (hB := hBX120) (read_turned (g := W4.heap.size) husr.out hvsr.out) (BW2.out.trans (belX121.mono BW2.out.size)) hX121 (by rw [turned_length, HN0.out]; omega)
          rw [← hX121]
          clear hX121
          refine hKK.out _ _ ⟨(PP.out.pbox.next belX121).1, belX121⟩ (fun _ => ?_)
          clear hKK KK
          refine wpAnyH_done (by kernel_rfl) ?_ _
          try dsimp only [getElem_toArray, getElem_cons_succ, getElem_cons_zero, Act.put]
          try simp only [setIfInBounds_toArray, set_cons_zero, set_cons_succ]
          have hp := PP.out.next belX121
          go_wp2_with (fail)
          go_meet
          exact ⟨bb, _, rfl, hp, hfin.1, hfin.2⟩
        ·go_simp
         obtain ⟨X122, hX122⟩ : ∃ X, X = X114.alloc (.cells #[.slice none 0 0] 28) := ⟨_, rfl⟩
         have belX122 : Below w2.heap.size w2 X122 := by rw [hX122]; exact belX114.alloc belX114.size _
         have hOX122 := hOX114.alloc (.cells #[.slice none 0 0] 28)
         rw [← hX122] at hOX122
         have hCX122 : Boxed X122 b7 23 (.slice (some ⟨W4.heap.size, 0, none⟩) 0 0) := by rw [hX122]; exact hCX114.alloc _
         obtain ⟨bb, hbb⟩ : ∃ bb, bb = X114.heap.size := ⟨_, rfl⟩
         have hbbw : w2.heap.size ≤ bb := by rw [hbb]; exact belX114.size
         have hBX122 : Boxed X122 bb 28 (.slice none 0 0) := by rw [hX122, hbb]; exact Boxed.new _ _ _
         rw [← hbb]
         clear hbb
         rw [← hX122]
         clear hX122
         refine hKK.out _ _ ⟨(PP.out.pbox.next belX122).1, belX122⟩ (fun _ => ?_)
         clear hKK KK
         try dsimp only [getElem_toArray, getElem_cons_succ, getElem_cons_zero, Act.put]
         try simp only [setIfInBounds_toArray, set_cons_zero, set_cons_succ]
         refine wpAnyH_ready (rs := [8]) (by kernel_rfl) (by simp) (AllReadyH.cons rfl (fun KK hKK => ?_) AllReadyH.nil)
         refine step_append_vals rfl (.tmp 39) (.tmp 41) 26 rfl w2.heap.size 23 i0 (.slice none 0 0) 1 24 Try.underlying26 HI0.out hz0 hz1 hz2 rfl (by decide) (.slice aX114 (N - K) cX114) (N - K) us rfl hOX122 (some ⟨b7, 0, none⟩) 1 1 [(.slice (some ⟨W4.heap.size, 0, none⟩) 0 0)] rfl rfl (boxed_news hCX122) (fun u hu => by rw [List.mem_singleton.1 hu]; rfl) (by unfold maxLen; omega) (by omega) belX122.size ?_
         intro vX123 X123 hOX123 hgX123
         have belX123 : Below w2.heap.size w2 X123 := row_below belX122 belX122.size hOX122 hgX123
         have hBX123 : Boxed X123 bb 28 (.slice none 0 0) := box_grown hBX122 hOX122 hgX123
         obtain ⟨aX123, cX123, hvX123⟩ := oslice hOX123
         subst hvX123
         clear hgX123
         refine hKK.out _ _ ⟨(PP.out.pbox.next belX123).1, belX123⟩ (fun _ => ?_)
         clear hKK KK
         try dsimp only [getElem_toArray, getElem_cons_succ, getElem_cons_zero, Act.put]
         try simp only [setIfInBounds_toArray, set_cons_zero, set_cons_succ]
         refine wpAnyH_ready (rs := [13]) (by kernel_rfl) (by simp) (AllReadyH.cons rfl (fun KK hKK => ?_) AllReadyH.nil)
         refine step_append_vals rfl (.tmp 42) (.tmp 46) 26 rfl w2.heap.size 23 i0 (.slice none 0 0) 1 24 Try.underlying26 HI0.out hz0 hz1 hz2 rfl (by decide) (.slice aX123 (N - K + 1) cX123) (N - K + 1) (us ++ [(.slice (some ⟨W4.heap.size, 0, none⟩) 0 0)]) rfl hOX123 (some ⟨pb, po, none⟩) K cp vs rfl (by rw [hvs.out, Nat.mul_one]) (hvsn.out _ (BW2.out.trans (belX123.mono BW2.out.size))) hvs1 (by unfold maxLen; omega) (by omega) belX123.size ?_
         intro vX124 X124 hOX124 hgX124
         have belX124 : Below w2.heap.size w2 X124 := row_below belX123 belX123.size hOX123 hgX124
         have hBX124 : Boxed X124 bb 28 (.slice none 0 0) := box_grown hBX123 hOX123 hgX124
         obtain ⟨aX124, cX124, hvX124⟩ := oslice hOX124
         subst hvX124
         clear hgX124
         refine hKK.out _ _ ⟨(PP.out.pbox.next belX124).1, belX124⟩ (fun _ => ?_)
         clear hKK KK
         try dsimp only [getElem_toArray, getElem_cons_succ, getElem_cons_zero, Act.put]
         try simp only [setIfInBounds_toArray, set_cons_zero, set_cons_succ]
         refine wpAnyH_take (i := 14) (v := ?_) rfl (by kernel_rfl) (by kernel_rfl) (by kernel_rfl) (fun _ _ _ h => h) (Or.inl ⟨by kernel_rfl, ?_⟩) ⟨(PP.out.pbox.next belX124).1, belX124⟩ ?_
         rotate_left
         ·(intro w0 z; (try dsimp only at z); obtain ⟨c0, hLB⟩ := z; go_simp; try with_reducible rfl)
         try dsimp only [getElem_toArray, getElem_cons_succ, getElem_cons_zero, Act.put]
         try simp only [setIfInBounds_toArray, set_cons_zero, set_cons_succ]
         refine wpAnyH_ready (rs := [16]) (by kernel_rfl) (by simp) (AllReadyH.cons rfl (fun KK hKK => ?_) AllReadyH.nil)
         have hcb := hBX124.cell
         have hfb := hBX124.frozen
         go_simp
         obtain ⟨X125, hX125⟩ : ∃ X, X = X124.setCell ⟨bb, 0, none⟩ (.slice aX124 (N - K + 1 + K) cX124) := ⟨_, rfl⟩
         have belX125 : Below w2.heap.size w2 X125 := by rw [hX125]; exact belX124.setCell (p := ⟨bb, 0, none⟩) hbbw _
         have hfin := turned_end (hO := hOX124) (hB := hBX124) (read_turned (g := W4.heap.size) husr.out hvsr.out) (BW2.out.trans (belX125.mono BW2.out.size)) hX125 (by rw [turned_length, HN0.out]; omega)
         rw [← hX125]
         clear hX125
         refine hKK.out _ _ ⟨(PP.out.pbox.next belX125).1, belX125⟩ (fun _ => ?_)
         clear hKK KK
         refine wpAnyH_done (by kernel_rfl) ?_ _
         try dsimp only [getElem_toArray, getElem_cons_succ, getElem_cons_zero, Act.put]
         try simp only [setIfInBounds_toArray, set_cons_zero, set_cons_succ]
         have hp := PP.out.next belX125
         go_wp2_with (fail)
         go_meet
         exact ⟨bb, _, rfl, hp, hfin.1, hfin.2⟩
       ·go_simp
        obtain ⟨X126, hX126⟩ : ∃ X, X = X113.alloc (.cells #[.slice none 0 0] 28) := ⟨_, rfl⟩
        have belX126 : Below w2.heap.size w2 X126 := by rw [hX126]; exact belX113.alloc belX113.size _
        have hOX126 := hOX113.alloc (.cells #[.slice none 0 0] 28)
        rw [← hX126] at hOX126
        have hCX126 : Boxed X126 b7 23 (.slice (some ⟨W4.heap.size, 0, none⟩) 0 0) := by rw [hX126]; exact hCX113.alloc _
        obtain ⟨bb, hbb⟩ : ∃ bb, bb = X113.heap.size := ⟨_, rfl⟩
        have hbbw : w2.heap.size ≤ bb := by rw [hbb]; exact belX113.size
        have hBX126 : Boxed X126 bb 28 (.slice none 0 0) := by rw [hX126, hbb]; exact Boxed.new _ _ _
        rw [← hbb]
        clear hbb
        rw [← hX126]
        clear hX126
        refine hKK.out _ _ ⟨(PP.out.pbox.next belX126).1, belX126⟩ (fun _ => ?_)
        clear hKK KK
        try dsimp only [getElem_toArray, getElem_cons_succ, getElem_cons_zero, Act.put]
        try simp only [setIfInBounds_toArray, set_cons_zero, set_cons_succ]
        refine wpAnyH_ready (rs := [5]) (by kernel_rfl) (by simp) (AllReadyH.cons rfl (fun KK hKK => ?_) AllReadyH.nil)
        refine step_append_vals rfl (.tmp 34) (.tmp 38) 26 rfl w2.heap.size 23 i0 (.slice none 0 0) 1 24 Try.underlying26 HI0.out hz0 hz1 hz2 rfl (by decide) (.slice (some ⟨X93.heap.size, 0, none⟩) 0 0) 0 [] rfl hOX126 (some ⟨pb, po + K, none⟩) (N - K) (cp - K) us rfl (by rw [hus.out, Nat.mul_one]) (husn.out _ (BW2.out.trans (belX126.mono BW2.out.size))) hus1 (by unfold maxLen; omega) (by omega) belX126.size ?_
        intro vX127 X127 hOX127 hgX127
        rw [Nat.zero_add, List.nil_append] at hOX127
        have belX127 : Below w2.heap.size w2 X127 := row_below belX126 belX126.size hOX126 hgX127
        have hBX127 : Boxed X127 bb 28 (.slice none 0 0) := box_grown hBX126 hOX126 hgX127
        have hCX127 := boxed_keep hCX126 hne7 hgX127
        obtain ⟨aX127, cX127, hvX127⟩ := oslice hOX127
        subst hvX127
        clear hgX127
        refine hKK.out _ _ ⟨(PP.out.pbox.next belX127).1, belX127⟩ (fun _ => ?_)
        clear hKK KK
        try dsimp only [getElem_toArray, getElem_cons_succ, getElem_cons_zero, Act.put]
        try simp only [setIfInBounds_toArray, set_cons_zero, set_cons_succ]
        refine wpAnyH_ready (rs := [8]) (by kernel_rfl) (by simp) (AllReadyH.cons rfl (fun KK hKK => ?_) AllReadyH.nil)
        refine step_append_vals rfl (.tmp 39) (.tmp 41) 26 rfl w2.heap.size 23 i0 (.slice none 0 0) 1 24 Try.underlying26 HI0.out hz0 hz1 hz2 rfl (by decide) (.slice aX127 (N - K) cX127) (N - K) us rfl hOX127 (some ⟨b7, 0, none⟩) 1 1 [(.slice (some ⟨W4.heap.size, 0, none⟩) 0 0)] rfl rfl (boxed_news hCX127) (fun u hu => by rw [List.mem_singleton.1 hu]; rfl) (by unfold maxLen; omega) (by omega) belX127.size ?_
        intro vX128 X128 hOX128 hgX128
        have belX128 : Below w2.heap.size w2 X128 := row_below belX127 belX127.size hOX127 hgX128
        have hBX128 : Boxed X128 bb 28 (.slice none 0 0) := box_grown hBX127 hOX127 hgX128
        obtain ⟨aX128, cX128, hvX128⟩ := oslice hOX128
        subst hvX128
        clear hgX128
        refine hKK.out _ _ ⟨(PP.out.pbox.next belX128).1, belX128⟩ (fun _ => ?_)
        clear hKK KK
        try dsimp only [getElem_toArray, getElem_cons_succ, getElem_cons_zero, Act.put]
        try simp only [setIfInBounds_toArray, set_cons_zero, set_cons_succ]
        refine wpAnyH_ready (rs := [13]) (by kernel_rfl) (by simp) (AllReadyH.cons rfl (fun KK hKK => ?_) AllReadyH.nil)
        refine step_append_vals rfl (.tmp 42) (.tmp 46) 26 rfl w2.heap.size 23 i0 (.slice none 0 0) 1 24 Try.underlying26 HI0.out hz0 hz1 hz2 rfl (by decide) (.slice aX128 (N - K + 1) cX128) (N - K + 1) (us ++ [(.slice (some ⟨W4.heap.size, 0, none⟩) 0 0)]) rfl hOX128 (some ⟨pb, po, none⟩) K cp vs rfl (by rw [hvs.out, Nat.mul_one]) (hvsn.out _ (BW2.out.trans (belX128.mono BW2.out.size))) hvs1 (by unfold maxLen; omega) (by omega) belX128.size ?_
        intro vX129 X129 hOX129 hgX129
        have belX129 : Below w2.heap.size w2 X129 := row_below belX128 belX128.size hOX128 hgX129
        have hBX129 : Boxed X129 bb 28 (.slice none 0 0) := box_grown hBX128 hOX128 hgX129
        obtain ⟨aX129, cX129, hvX129⟩ := oslice hOX129
        subst hvX129
        clear hgX129
        refine hKK.out _ _ ⟨(PP.out.pbox.next belX129).1, belX129⟩ (fun _ => ?_)
        clear hKK KK
        try dsimp only [getElem_toArray, getElem_cons_succ, getElem_cons_zero, Act.put]
        try simp only [setIfInBounds_toArray, set_cons_zero, set_cons_succ]
        refine wpAnyH_take (i := 14) (v := ?_) rfl (by kernel_rfl) (by kernel_rfl) (by kernel_rfl) (fun _ _ _ h => h) (Or.inl ⟨by kernel_rfl, ?_⟩) ⟨(PP.out.pbox.next belX129).1, belX129⟩ ?_
        rotate_left
        ·(intro w0 z; (try dsimp only at z); obtain ⟨c0, hLB⟩ := z; go_simp; try with_reducible rfl)
        try dsimp only [getElem_toArray, getElem_cons_succ, getElem_cons_zero, Act.put]
        try simp only [setIfInBounds_toArray, set_cons_zero, set_cons_succ]
        refine wpAnyH_ready (rs := [16]) (by kernel_rfl) (by simp) (AllReadyH.cons rfl (fun KK hKK => ?_) AllReadyH.nil)
        have hcb := hBX129.cell
        have hfb := hBX129.frozen
        go_simp
        obtain ⟨X130, hX130⟩ : ∃ X, X = X129.setCell ⟨bb, 0, none⟩ (.slice aX129 (N - K + 1 + K) cX129) := ⟨_, rfl⟩
        have belX130 : Below w2.heap.size w2 X130 := by rw [hX130]; exact belX129.setCell (p := ⟨bb, 0, none⟩) hbbw _
        have hfin := turned_end (hO := hOX129) (hB := hBX129) (read_turned (g := W4.heap.size) husr.out hvsr.out) (BW2.out.trans (belX130.mono BW2.out.size)) hX130 (by rw [turned_length, HN0.out]; omega)
        rw [← hX130]
        clear hX130
        refine hKK.out _ _ ⟨(PP.out.pbox.next belX130).1, belX130⟩ (fun _ => ?_)
        clear hKK KK
        refine wpAnyH_done (by kernel_rfl) ?_ _
        try dsimp only [getElem_toArray, getElem_cons_succ, getElem_cons_zero, Act.put]
        try simp only [setIfInBounds_toArray, set_cons_zero, set_cons_succ]
        have hp := PP.out.next belX130
        go_wp2_with (fail)
        go_meet
        exact ⟨bb, _, rfl, hp, hfin.1, hfin.2⟩
      ·go_simp
       obtain ⟨X131, hX131⟩ : ∃ X, X = X94.alloc (.cells #[.slice none 0 0] 28) := ⟨_, rfl⟩
       have belX131 : Below w2.heap.size w2 X131 := by rw [hX131]; exact belX94.alloc belX94.size _
       have hOX131 := hOX94.alloc (.cells #[.slice none 0 0] 28)
       rw [← hX131] at hOX131
       obtain ⟨bb, hbb⟩ : ∃ bb, bb = X94.heap.size := ⟨_, rfl⟩
       have hbbw : w2.heap.size ≤ bb := by rw [hbb]; exact belX94.size
       have hBX131 : Boxed X131 bb 28 (.slice none 0 0) := by rw [hX131, hbb]; exact Boxed.new _ _ _
       rw [← hbb]
       clear hbb
       rw [← hX131]
       clear hX131
       refine hKK.out _ _ ⟨(PP.out.pbox.next belX131).1, belX131⟩ (fun _ => ?_)
       clear hKK KK
       try dsimp only [getElem_toArray, getElem_cons_succ, getElem_cons_zero, Act.put]
       try simp only [setIfInBounds_toArray, set_cons_zero, set_cons_succ]
       refine wpAnyH_ready (rs := [5, 7]) (by kernel_rfl) (by simp) (AllReadyH.cons rfl (fun KK hKK => ?_) (AllReadyH.cons rfl (fun KK hKK => ?_) AllReadyH.nil))
       ·refine step_append_vals rfl (.tmp 34) (.tmp 38) 26 rfl w2.heap.size 23 i0 (.slice none 0 0) 1 24 Try.underlying26 HI0.out hz0 hz1 hz2 rfl (by decide) (.slice (some ⟨X93.heap.size, 0, none⟩) 0 0) 0 [] rfl hOX131 (some ⟨pb, po + K, none⟩) (N - K) (cp - K) us rfl (by rw [hus.out, Nat.mul_one]) (husn.out _ (BW2.out.trans (belX131.mono BW2.out.size))) hus1 (by unfold maxLen; omega) (by omega) belX131.size ?_
        intro vX132 X132 hOX132 hgX132
        rw [Nat.zero_add, List.nil_append] at hOX132
        have belX132 : Below w2.heap.size w2 X132 := row_below belX131 belX131.size hOX131 hgX132
        have hBX132 : Boxed X132 bb 28 (.slice none 0 0) := box_grown hBX131 hOX131 hgX132
        obtain ⟨aX132, cX132, hvX132⟩ := oslice hOX132
        subst hvX132
        clear hgX132
        refine hKK.out _ _ ⟨(PP.out.pbox.next belX132).1, belX132⟩ (fun _ => ?_)
        clear hKK KK
        try dsimp only [getElem_toArray, getElem_cons_succ, getElem_cons_zero, Act.put]
        try simp only [setIfInBounds_toArray, set_cons_zero, set_cons_succ]
        refine wpAnyH_ready (rs := [7]) (by kernel_rfl) (by simp) (AllReadyH.cons rfl (fun KK hKK => ?_) AllReadyH.nil)
        go_simp
        obtain ⟨X133, hX133⟩ : ∃ X, X = X132.alloc (.cells #[(.slice (some ⟨W4.heap.size, 0, none⟩) 0 0)] 23) := ⟨_, rfl⟩
        have belX133 : Below w2.heap.size w2 X133 := by rw [hX133]; exact belX132.alloc belX132.size _
        have hOX133 := hOX132.alloc (.cells #[(.slice (some ⟨W4.heap.size, 0, none⟩) 0 0)] 23)
        rw [← hX133] at hOX133
        have hBX133 : Boxed X133 bb 28 (.slice none 0 0) := by rw [hX133]; exact hBX132.alloc _
        obtain ⟨b7, hb7⟩ : ∃ b7, b7 = X132.heap.size := ⟨_, rfl⟩
        have hCX133 : Boxed X133 b7 23 (.slice (some ⟨W4.heap.size, 0, none⟩) 0 0) := by rw [hX133, hb7]; exact Boxed.new _ _ _
        have hne7 : ((.slice aX132 (N - K) cX132) : Value).ownBlock ≠ some b7 := by rw [hb7]; exact own_fresh hOX132
        rw [← hb7]
        clear hb7
        rw [← hX133]
        clear hX133
        refine hKK.out _ _ ⟨(PP.out.pbox.next belX133).1, belX133⟩ (fun _ => ?_)
        clear hKK KK
        try dsimp only [getElem_toArray, getElem_cons_succ, getElem_cons_zero, Act.put]
        try simp only [setIfInBounds_toArray, set_cons_zero, set_cons_succ]
        refine wpAnyH_ready (rs := [8]) (by kernel_rfl) (by simp) (AllReadyH.cons rfl (fun KK hKK => ?_) AllReadyH.nil)
        refine step_append_vals rfl (.tmp 39) (.tmp 41) 26 rfl w2.heap.size 23 i0 (.slice none 0 0) 1 24 Try.underlying26 HI0.out hz0 hz1 hz2 rfl (by decide) (.slice aX132 (N - K) cX132) (N - K) us rfl hOX133 (some ⟨b7, 0, none⟩) 1 1 [(.slice (some ⟨W4.heap.size, 0, none⟩) 0 0)] rfl rfl (boxed_news hCX133) (fun u hu => by rw [List.mem_singleton.1 hu]; rfl) (by unfold maxLen; omega) (by omega) belX133.size ?_
        intro vX134 X134 hOX134 hgX134
        have belX134 : Below w2.heap.size w2 X134 := row_below belX133 belX133.size hOX133 hgX134
        have hBX134 : Boxed X134 bb 28 (.slice none 0 0) := box_grown hBX133 hOX133 hgX134
        obtain ⟨aX134, cX134, hvX134⟩ := oslice hOX134
        subst hvX134
        clear hgX134
        refine hKK.out _ _ ⟨(PP.out.pbox.next belX134).1, belX134⟩ (fun _ => ?_)
        clear hKK KK
        try dsimp only [getElem_toArray, getElem_cons_succ, getElem_cons_zero, Act.put]
        try simp only [setIfInBounds_toArray, set_cons_zero, set_cons_succ]
        refine wpAnyH_ready (rs := [13]) (by kernel_rfl) (by simp) (AllReadyH.cons rfl (fun KK hKK => ?_) AllReadyH.nil)
        refine step_append_vals rfl (.tmp 42) (.tmp 46) 26 rfl w2.heap.size 23 i0 (.slice none 0 0) 1 24 Try.underlying26 HI0.out hz0 hz1 hz2 rfl (by decide) (.slice aX134 (N - K + 1) cX134) (N - K + 1) (us ++ [(.slice (some ⟨W4.heap.size, 0, none⟩) 0 0)]) rfl hOX134 (some ⟨pb, po, none⟩) K cp vs rfl (by rw [hvs.out, Nat.mul_one]) (hvsn.out _ (BW2.out.trans (belX134.mono BW2.out.size))) hvs1 (by unfold maxLen; omega) (by omega) belX134.size ?_
        intro vX135 X135 hOX135 hgX135
        have belX135 : Below w2.heap.size w2 X135 := row_below belX134 belX134.size hOX134 hgX135
        have hBX135 : Boxed X135 bb 28 (.slice none 0 0) := box_grown hBX134 hOX134 hgX135
        obtain ⟨aX135, cX135, hvX135⟩ := oslice hOX135
        subst hvX135
        clear hgX135
        refine hKK.out _ _ ⟨(PP.out.pbox.next belX135).1, belX135⟩ (fun _ => ?_)
        clear hKK KK
        try dsimp only [getElem_toArray, getElem_cons_succ, getElem_cons_zero, Act.put]
        try simp only [setIfInBounds_toArray, set_cons_zero, set_cons_succ]
        refine wpAnyH_take (i := 14) (v := ?_) rfl (by kernel_rfl) (by kernel_rfl) (by kernel_rfl) (fun _ _ _ h => h) (Or.inl ⟨by kernel_rfl, ?_⟩) ⟨(PP.out.pbox.next belX135).1, belX135⟩ ?_
        rotate_left
        ·(intro w0 z; (try dsimp only at z); obtain ⟨c0, hLB⟩ := z; go_simp; try with_reducible rfl)
        try dsimp only [getElem_toArray, getElem_cons_succ, getElem_cons_zero, Act.put]
        try simp only [setIfInBounds_toArray, set_cons_zero, set_cons_succ]
        refine wpAnyH_ready (rs := [16]) (by kernel_rfl) (by simp) (AllReadyH.cons rfl (fun KK hKK => ?_) AllReadyH.nil)
        have hcb := hBX135.cell
        have hfb := hBX135.frozen
        go_simp
        obtain ⟨X136, hX136⟩ : ∃ X, X = X135.setCell ⟨bb, 0, none⟩ (.slice aX135 (N - K + 1 + K) cX135) := ⟨_, rfl⟩
        have belX136 : Below w2.heap.size w2 X136 := by rw [hX136]; exact belX135.setCell (p := ⟨bb, 0, none⟩) hbbw _
        have hfin := turned_end (hO := hOX135) (hB := hBX135) (read_turned (g := W4.heap.size) husr.out hvsr.out) (BW2.out.trans (belX136.mono BW2.out.size)) hX136 (by rw [turned_length, HN0.out]; omega)
        rw [← hX136]
        clear hX136
        refine hKK.out _ _ ⟨(PP.out.pbox.next belX136).1, belX136⟩ (fun _ => ?_)
        clear hKK KK
        refine wpAnyH_done (by kernel_rfl) ?_ _
        try dsimp only [getElem_toArray, getElem_cons_succ, getElem_cons_zero, Act.put]
        try simp only [setIfInBounds_toArray, set_cons_zero, set_cons_succ]
        have hp := PP.out.next belX136
        go_wp2_with (fail)
        go_meet
        exact ⟨bb, _, rfl, hp, hfin.1, hfin.2⟩
       ·go_simp
        obtain ⟨X137, hX137⟩ : ∃ X, X = X131.alloc (.cells #[(.slice (some ⟨W4.heap.size, 0, none⟩) 0 0)] 23) := ⟨_, rfl⟩
        have belX137 : Below w2.heap.size w2 X137 := by rw [hX137]; exact belX131.alloc belX131.size _
        have hOX137 := hOX131.alloc (.cells #[(.slice (some ⟨W4.heap.size, 0, none⟩) 0 0)] 23)
        rw [← hX137] at hOX137
        have hBX137 : Boxed X137 bb 28 (.slice none 0 0) := by rw [hX137]; exact hBX131.alloc _
        obtain ⟨b7, hb7⟩ : ∃ b7, b7 = X131.heap.size := ⟨_, rfl⟩
        have hCX137 : Boxed X137 b7 23 (.slice (some ⟨W4.heap.size, 0, none⟩) 0 0) := by rw [hX137, hb7]; exact Boxed.new _ _ _
        have hne7 : ((.slice (some ⟨X93.heap.size, 0, none⟩) 0 0) : Value).ownBlock ≠ some b7 := by rw [hb7]; exact own_fresh hOX131
        rw [← hb7]
        clear hb7
        rw [← hX137]
        clear hX137
        refine hKK.out _ _ ⟨(PP.out.pbox.next belX137).1, belX137⟩ (fun _ => ?_)
        clear hKK KK
        try dsimp only [getElem_toArray, getElem_cons_succ, getElem_cons_zero, Act.put]
        try simp only [setIfInBounds_toArray, set_cons_zero, set_cons_succ]
        refine wpAnyH_ready (rs := [5]) (by kernel_rfl) (by simp) (AllReadyH.cons rfl (fun KK hKK => ?_) AllReadyH.nil)
        refine step_append_vals rfl (.tmp 34) (.tmp 38) 26 rfl w2.heap.size 23 i0 (.slice none 0 0) 1 24 Try.underlying26 HI0.out hz0 hz1 hz2 rfl (by decide) (.slice (some ⟨X93.heap.size, 0, none⟩) 0 0) 0 [] rfl hOX137 (some ⟨pb, po + K, none⟩) (N - K) (cp - K) us rfl (by rw [hus.out, Nat.mul_one]) (husn.out _ (BW2.out.trans (belX137.mono BW2.out.size))) hus1 (by unfold maxLen; omega) (by omega) belX137.size ?_
        intro vX138 X138 hOX138 hgX138
        rw [Nat.zero_add, List.nil_append] at hOX138
        have belX138 : Below w2.heap.size w2 X138 := row_below belX137 belX137.size hOX137 hgX138
        have hBX138 : Boxed X138 bb 28 (.slice none 0 0) := box_grown hBX137 hOX137 hgX138
        have hCX138 := boxed_keep hCX137 hne7 hgX138
        obtain ⟨aX138, cX138, hvX138⟩ := oslice hOX138
        subst hvX138
        clear hgX138
        refine hKK.out _ _ ⟨(PP.out.pbox.next belX138).1, belX138⟩ (fun _ => ?_)
        clear hKK KK
        try dsimp only [getElem_toArray, getElem_cons_succ, getElem_cons_zero, Act.put]
        try simp only [setIfInBounds_toArray, set_cons_zero, set_cons_succ]
        refine wpAnyH_ready (rs := [8]) (by kernel_rfl) (by simp) (AllReadyH.cons rfl (fun KK hKK => ?_) AllReadyH.nil)
        refine step_append_vals rfl (.tmp 39) (.tmp 41) 26 rfl w2.heap.size 23 i0 (.slice none 0 0) 1 24 Try.underlying26 HI0.out hz0 hz1 hz2 rfl (by decide) (.slice aX138 (N - K) cX138) (N - K) us rfl hOX138 (some ⟨b7, 0, none⟩) 1 1 [(.slice (some ⟨W4.heap.size, 0, none⟩) 0 0)] rfl rfl (boxed_news hCX138) (fun u hu => by rw [List.mem_singleton.1 hu]; rfl) (by unfold maxLen; omega) (by omega) belX138.size ?_
        intro vX139 X139 hOX139 hgX139
        have belX139 : Below w2.heap.size w2 X139 := row_below belX138 belX138.size hOX138 hgX139
        have hBX139 : Boxed X139 bb 28 (.slice none 0 0) := box_grown hBX138 hOX138 hgX139
        obtain ⟨aX139, cX139, hvX139⟩ := oslice hOX139
        subst hvX139
        clear hgX139
        refine hKK.out _ _ ⟨(PP.out.pbox.next belX139).1, belX139⟩ (fun _ => ?_)
        clear hKK KK
        try dsimp only [getElem_toArray, getElem_cons_succ, getElem_cons_zero, Act.put]
        try simp only [setIfInBounds_toArray, set_cons_zero, set_cons_succ]
        refine wpAnyH_ready (rs := [13]) (by kernel_rfl) (by simp) (AllReadyH.cons rfl (fun KK hKK => ?_) AllReadyH.nil)
        refine step_append_vals rfl (.tmp 42) (.tmp 46) 26 rfl w2.heap.size 23 i0 (.slice none 0 0) 1 24 Try.underlying26 HI0.out hz0 hz1 hz2 rfl (by decide) (.slice aX139 (N - K + 1) cX139) (N - K + 1) (us ++ [(.slice (some ⟨W4.heap.size, 0, none⟩) 0 0)]) rfl hOX139 (some ⟨pb, po, none⟩) K cp vs rfl (by rw [hvs.out, Nat.mul_one]) (hvsn.out _ (BW2.out.trans (belX139.mono BW2.out.size))) hvs1 (by unfold maxLen; omega) (by omega) belX139.size ?_
        intro vX140 X140 hOX140 hgX140
        have belX140 : Below w2.heap.size w2 X140 := row_below belX139 belX139.size hOX139 hgX140
        have hBX140 : Boxed X140 bb 28 (.slice none 0 0) := box_grown hBX139 hOX139 hgX140
        obtain ⟨aX140, cX140, hvX140⟩ := oslice hOX140
        subst hvX140
        clear hgX140
        refine hKK.out _ _ ⟨(PP.out.pbox.next belX140).1, belX140⟩ (fun _ => ?_)
        clear hKK KK
        try dsimp only [getElem_toArray, getElem_cons_succ, getElem_cons_zero, Act.put]
        try simp only [setIfInBounds_toArray, set_cons_zero, set_cons_succ]
        refine wpAnyH_take (i := 14) (v := ?_) rfl (by kernel_rfl) (by kernel_rfl) (by kernel_rfl) (fun _ _ _ h => h) (Or.inl ⟨by kernel_rfl, ?_⟩) ⟨(PP.out.pbox.next belX140).1, belX140⟩ ?_
        rotate_left
        ·(intro w0 z; (try dsimp only at z); obtain ⟨c0, hLB⟩ := z; go_simp; try with_reducible rfl)
        try dsimp only [getElem_toArray, getElem_cons_succ, getElem_cons_zero, Act.put]
        try simp only [setIfInBounds_toArray, set_cons_zero, set_cons_succ]
        refine wpAnyH_ready (rs := [16]) (by kernel_rfl) (by simp) (AllReadyH.cons rfl (fun KK hKK => ?_) AllReadyH.nil)
        have hcb := hBX140.cell
        have hfb := hBX140.frozen
        go_simp
        obtain ⟨X141, hX141⟩ : ∃ X, X = X140.setCell ⟨bb, 0, none⟩ (.slice aX140 (N - K + 1 + K) cX140) := ⟨_, rfl⟩
        have belX141 : Below w2.heap.size w2 X141 := by rw [hX141]; exact belX140.setCell (p := ⟨bb, 0, none⟩) hbbw _
        have hfin := turned_end (hO := hOX140) (hB := hBX140) (read_turned (g := W4.heap.size) husr.out hvsr.out) (BW2.out.trans (belX141.mono BW2.out.size)) hX141 (by rw [turned_length, HN0.out]; omega)
        rw [← hX141]
        clear hX141
        refine hKK.out _ _ ⟨(PP.out.pbox.next belX141).1, belX141⟩ (fun _ => ?_)
        clear hKK KK
        refine wpAnyH_done (by kernel_rfl) ?_ _
        try dsimp only [getElem_toArray, getElem_cons_succ, getElem_cons_zero, Act.put]
        try simp only [setIfInBounds_toArray, set_cons_zero, set_cons_succ]
        have hp := PP.out.next belX141
        go_wp2_with (fail)
        go_meet
        exact ⟨bb, _, rfl, hp, hfin.1, hfin.2⟩
     ·go_simp
      obtain ⟨X142, hX142⟩ : ∃ X, X = X93.alloc (.cells #[(.slice (some ⟨W4.heap.size, 0, none⟩) 0 0)] 23) := ⟨_, rfl⟩
      have belX142 : Below w2.heap.size w2 X142 := by rw [hX142]; exact belX93.alloc belX93.size _
      obtain ⟨b7, hb7⟩ : ∃ b7, b7 = X93.heap.size := ⟨_, rfl⟩
      have hCX142 : Boxed X142 b7 23 (.slice (some ⟨W4.heap.size, 0, none⟩) 0 0) := by rw [hX142, hb7]; exact Boxed.new _ _ _
      rw [← hb7]
      clear hb7
      rw [← hX142]
      clear hX142
      refine hKK.out _ _ ⟨(PP.out.pbox.next belX142).1, belX142⟩ (fun _ => ?_)
      clear hKK KK
      try dsimp only [getElem_toArray, getElem_cons_succ, getElem_cons_zero, Act.put]
      try simp only [setIfInBounds_toArray, set_cons_zero, set_cons_succ]
      refine wpAnyH_ready (rs := [0, 15]) (by kernel_rfl) (by simp) (AllReadyH.cons rfl (fun KK hKK => ?_) (AllReadyH.cons rfl (fun KK hKK => ?_) AllReadyH.nil))
      ·go_simp
       obtain ⟨X143, hX143⟩ : ∃ X, X = X142.alloc (.cells #[] 23) := ⟨_, rfl⟩
       have belX143 : Below w2.heap.size w2 X143 := by rw [hX143]; exact belX142.alloc belX142.size _
       have hCX143 : Boxed X143 b7 23 (.slice (some ⟨W4.heap.size, 0, none⟩) 0 0) := by rw [hX143]; exact hCX142.alloc _
       have hOX143 : X143.ownsRow w2.heap.size 23 1 (.slice (some ⟨X142.heap.size, 0, none⟩) 0 0) 0 [] := by rw [hX143]; exact rowS (World.alloc_heap_new _ _) belX142.size
       have hne7 : (Value.slice (some ⟨X142.heap.size, 0, none⟩) 0 0).ownBlock ≠ some b7 := fun e => by have e1 : X142.heap.size = b7 := Option.some.inj e; have := hCX142.lt; omega
       rw [← hX143]
       clear hX143
       refine hKK.out _ _ ⟨(PP.out.pbox.next belX143).1, belX143⟩ (fun _ => ?_)
       clear hKK KK
       try dsimp only [getElem_toArray, getElem_cons_succ, getElem_cons_zero, Act.put]
       try simp only [setIfInBounds_toArray, set_cons_zero, set_cons_succ]
       refine wpAnyH_ready (rs := [5, 15]) (by kernel_rfl) (by simp) (AllReadyH.cons rfl (fun KK hKK => ?_) (AllReadyH.cons rfl (fun KK hKK => ?_) AllReadyH.nil))
       ·refine step_append_vals rfl (.tmp 34) (.tmp 38) 26 rfl w2.heap.size 23 i0 (.slice none 0 0) 1 24 Try.underlying26 HI0.out hz0 hz1 hz2 rfl (by decide) (.slice (some ⟨X142.heap.size, 0, none⟩) 0 0) 0 [] rfl hOX143 (some ⟨pb, po + K, none⟩) (N - K) (cp - K) us rfl (by rw [hus.out, Nat.mul_one]) (husn.out _ (BW2.out.trans (belX143.mono BW2.out.size))) hus1 (by unfold maxLen; omega) (by omega) belX143.size ?_
        intro vX144 X144 hOX144 hgX144
        rw [Nat.zero_add, List.nil_append] at hOX144
        have belX144 : Below w2.heap.size w2 X144 := row_below belX143 belX143.size hOX143 hgX144
        have hCX144 := boxed_keep hCX143 hne7 hgX144
        obtain ⟨aX144, cX144, hvX144⟩ := oslice hOX144
        subst hvX144
        clear hgX144
        refine hKK.out _ _ ⟨(PP.out.pbox.next belX144).1, belX144⟩ (fun _ => ?_)
        clear hKK KK
        try dsimp only [getElem_toArray, getElem_cons_succ, getElem_cons_zero, Act.put]
        try simp only [setIfInBounds_toArray, set_cons_zero, set_cons_succ]
        refine wpAnyH_ready (rs := [8, 15]) (by kernel_rfl) (by simp) (AllReadyH.cons rfl (fun KK hKK => ?_) (AllReadyH.cons rfl (fun KK hKK => ?_) AllReadyH.nil))
        ·refine step_append_vals rfl (.tmp 39) (.tmp 41) 26 rfl w2.heap.size 23 i0 (.slice none 0 0) 1 24 Try.underlying26 HI0.out hz0 hz1 hz2 rfl (by decide) (.slice aX144 (N - K) cX144) (N - K) us rfl hOX144 (some ⟨b7, 0, none⟩) 1 1 [(.slice (some ⟨W4.heap.size, 0, none⟩) 0 0)] rfl rfl (boxed_news hCX144) (fun u hu => by rw [List.mem_singleton.1 hu]; rfl) (by unfold maxLen; omega) (by omega) belX144.size ?_
         intro vX145 X145 hOX145 hgX145
         have belX145 : Below w2.heap.size w2 X145 := row_below belX144 belX144.size hOX144 hgX145
         obtain ⟨aX145, cX145, hvX145⟩ := oslice hOX145
         subst hvX145
         clear hgX145
         refine hKK.out _ _ ⟨(PP.out.pbox.next belX145).1, belX145⟩ (fun _ => ?_)
         clear hKK KK
         try dsimp only [getElem_toArray, getElem_cons_succ, getElem_cons_zero, Act.put]
         try simp only [setIfInBounds_toArray, set_cons_zero, set_cons_succ]
         refine wpAnyH_ready (rs := [13, 15]) (by kernel_rfl) (by simp) (AllReadyH.cons rfl (fun KK hKK => ?_) (AllReadyH.cons rfl (fun KK hKK => ?_) AllReadyH.nil))
         ·refine step_append_vals rfl (.tmp 42) (.tmp 46) 26 rfl w2.heap.size 23 i0 (.slice none 0 0) 1 24 Try.underlying26 HI0.out hz0 hz1 hz2 rfl (by decide) (.slice aX145 (N - K + 1) cX145) (N - K + 1) (us ++ [(.slice (some ⟨W4.heap.size, 0, none⟩) 0 0)]) rfl hOX145 (some ⟨pb, po, none⟩) K cp vs rfl (by rw [hvs.out, Nat.mul_one]) (hvsn.out _ (BW2.out.trans (belX145.mono BW2.out.size))) hvs1 (by unfold maxLen; omega) (by omega) belX145.size ?_
          intro vX146 X146 hOX146 hgX146
          have belX146 : Below w2.heap.size w2 X146 := row_below belX145 belX145.size hOX145 hgX146
          obtain ⟨aX146, cX146, hvX146⟩ := oslice hOX146
          subst hvX146
          clear hgX146
          refine hKK.out _ _ ⟨(PP.out.pbox.next belX146).1, belX146⟩ (fun _ => ?_)
          clear hKK KK
          try dsimp only [getElem_toArray, getElem_cons_succ, getElem_cons_zero, Act.put]
          try simp only [setIfInBounds_toArray, set_cons_zero, set_cons_succ]
          refine wpAnyH_take (i := 14) (v := ?_) rfl (by kernel_rfl) (by kernel_rfl) (by kernel_rfl) (fun _ _ _ h => h) (Or.inl ⟨by kernel_rfl, ?_⟩) ⟨(PP.out.pbox.next belX146).1, belX146⟩ ?_
          rotate_left
          ·(intro w0 z; (try dsimp only at z); obtain ⟨c0, hLB⟩ := z; go_simp; try with_reducible rfl)
          try dsimp only [getElem_toArray, getElem_cons_succ, getElem_cons_zero, Act.put]
          try simp only [setIfInBounds_toArray, set_cons_zero, set_cons_succ]
          refine wpAnyH_ready (rs := [15]) (by kernel_rfl) (by simp) (AllReadyH.cons rfl (fun KK hKK => ?_) AllReadyH.nil)
          go_simp
          obtain ⟨X147, hX147⟩ : ∃ X, X = X146.alloc (.cells #[.slice none 0 0] 28) := ⟨_, rfl⟩
          have belX147 : Below w2.heap.size w2 X147 := by rw [hX147]; exact belX146.alloc belX146.size _
          have hOX147 := hOX146.alloc (.cells #[.slice none 0 0] 28)
          rw [← hX147] at hOX147
          obtain ⟨bb, hbb⟩ : ∃ bb, bb = X146.heap.size := ⟨_, rfl⟩
          have hbbw : w2.heap.size ≤ bb := by rw [hbb]; exact belX146.size
          have hBX147 : Boxed X147 bb 28 (.slice none 0 0) := by rw [hX147, hbb]; exact Boxed.new _ _ _
          rw [← hbb]
          clear hbb
          rw [← hX147]
          clear hX147
          refine hKK.out _ _ ⟨(PP.out.pbox.next belX147).1, belX147⟩ (fun _ => ?_)
          clear hKK KK
          try dsimp only [getElem_toArray, getElem_cons_succ, getElem_cons_zero, Act.put]
          try simp only [setIfInBounds_toArray, set_cons_zero, set_cons_succ]
          refine wpAnyH_ready (rs := [16]) (by kernel_rfl) (by simp) (AllReadyH.cons rfl (fun KK hKK => ?_) AllReadyH.nil)
          have hcb := hBX147.cell
          have hfb := hBX147.frozen
          go_simp
          obtain ⟨X148, hX148⟩ : ∃ X, X = X147.setCell ⟨bb, 0, none⟩ (.slice aX146 (N - K + 1 + K) cX146) := ⟨_, rfl⟩
          have belX148 : Below w2.heap.size w2 X148 := by rw [hX148]; exact belX147.setCell (p := ⟨bb, 0, none⟩) hbbw _
          have hfin := turned_end (hO := hOX147) (hB := hBX147) (read_turned (g := W4.heap.size) husr.out hvsr.out) (BW2.out.trans (belX148.mono BW2.out.size)) hX148 (by rw [turned_length, HN0.out]; omega)
          rw [← hX148]
          clear hX148
          refine hKK.out _ _ ⟨(PP.out.pbox.next belX148).1, belX148⟩ (fun _ => ?_)
          clear hKK KK
          refine wpAnyH_done (by kernel_rfl) ?_ _
          try dsimp only [getElem_toArray, getElem_cons_succ, getElem_cons_zero, Act.put]
          try simp only [setIfInBounds_toArray, set_cons_zero, set_cons_succ]
          have hp := PP.out.next belX148
          go_wp2_with (fail)
          go_meet
          exact ⟨bb, _, rfl, hp, hfin.1, hfin.2⟩
         ·go_simp
          obtain ⟨X149, hX149⟩ : ∃ X, X = X145.alloc (.cells #[.slice none 0 0] 28) := ⟨_, rfl⟩
          have belX149 : Below w2.heap.size w2 X149 := by rw [hX149]; exact belX145.alloc belX145.size _
          have hOX149 := hOX145.alloc (.cells #[.slice none 0 0] 28)
          rw [← hX149] at hOX149
          obtain ⟨bb, hbb⟩ : ∃ bb, bb = X145.heap.size := ⟨_, rfl⟩
          have hbbw : w2.heap.size ≤ bb := by rw [hbb]; exact belX145.size
          have hBX149 : Boxed X149 bb 28 (.slice none 0 0) := by rw [hX149, hbb]; exact Boxed.new _ _ _
          rw [← hbb]
          clear hbb
          rw [← hX149]
          clear hX149
          refine hKK.out _ _ ⟨(PP.out.pbox.next belX149).1, belX149⟩ (fun _ => ?_)
          clear hKK KK
          try dsimp only [getElem_toArray, getElem_cons_succ, getElem_cons_zero, Act.put]
          try simp only [setIfInBounds_toArray, set_cons_zero, set_cons_succ]
          refine wpAnyH_ready (rs := [13]) (by kernel_rfl) (by simp) (AllReadyH.cons rfl (fun KK hKK => ?_) AllReadyH.nil)
          refine step_append_vals rfl (.tmp 42) (.tmp 46) 26 rfl w2.heap.size 23 i0 (.slice none 0 0) 1 24 Try.underlying26 HI0.out hz0 hz1 hz2 rfl (by decide) (.slice aX145 (N - K + 1) cX145) (N - K + 1) (us ++ [(.slice (some ⟨W4.heap.size, 0, none⟩) 0 0)]) rfl hOX149 (some ⟨pb, po, none⟩) K cp vs rfl (by rw [hvs.out, Nat.mul_one]) (hvsn.out _ (BW2.out.trans (belX149.mono BW2.out.size))) hvs1 (by unfold maxLen; omega) (by omega) belX149.size ?_
          intro vX150 X150 hOX150 hgX150
          have belX150 : Below w2.heap.size w2 X150 := row_below belX149 belX149.size hOX149 hgX150
          have hBX150 : Boxed X150 bb 28 (.slice none 0 0) := box_grown hBX149 hOX149 hgX150
          obtain ⟨aX150, cX150, hvX150⟩ := oslice hOX150
          subst hvX150
          clear hgX150
          refine hKK.out _ _ ⟨(PP.out.pbox.next belX150).1, belX150⟩ (fun _ => ?_)
          clear hKK KK
          try dsimp only [getElem_toArray, getElem_cons_succ, getElem_cons_zero, Act.put]
          try simp only [setIfInBounds_toArray, set_cons_zero, set_cons_succ]
          refine wpAnyH_take (i := 14) (v := ?_) rfl (by kernel_rfl) (by kernel_rfl) (by kernel_rfl) (fun _ _ _ h => h) (Or.inl ⟨by kernel_rfl, ?_⟩) ⟨(PP.out.pbox.next belX150).1, belX150⟩ ?_
          rotate_left
          ·(intro w0 z; (try dsimp only at z); obtain ⟨c0, hLB⟩ := z; go_simp; try with_reducible rfl)
          try dsimp only [getElem_toArray, getElem_cons_succ, getElem_cons_zero, Act.put]
          try simp only [setIfInBounds_toArray, set_cons_zero, set_cons_succ]
          refine wpAnyH_ready (rs := [16]) (by kernel_rfl) (by simp) (AllReadyH.cons rfl (fun KK hKK => ?_) AllReadyH.nil)
          have hcb := hBX150.cell
          have hfb := hBX150.frozen
          go_simp
          obtain ⟨X151, hX151⟩ : ∃ X, X = X150.setCell ⟨bb, 0, none⟩ (.slice aX150 (N - K + 1 + K) cX150) := ⟨_, rfl⟩
          have belX151 : Below w2.heap.size w2 X151 := by rw [hX151]; exact belX150.setCell (p := ⟨bb, 0, none⟩) hbbw _
          have hfin := turned_end (hO := hOX150) (hB := hBX150) (read_turned (g := W4.heap.size) husr.out hvsr.out) (BW2.out.trans (belX151.mono BW2.out.size)) hX151 (by rw [turned_length, HN0.out]; omega)
          rw [← hX151]
          clear hX151
          refine hKK.out _ _ ⟨(PP.out.pbox.next belX151).1, belX151⟩ (fun _ => ?_)
          clear hKK KK
          refine wpAnyH_done (by kernel_rfl) ?_ _
          try dsimp only [getElem_toArray, getElem_cons_succ, getElem_cons_zero, Act.put]
          try simp only [setIfInBounds_toArray, set_cons_zero, set_cons_succ]
          have hp := PP.out.next belX151
          go_wp2_with (fail)
          go_meet
          exact ⟨bb, _, rfl, hp, hfin.1, hfin.2⟩
        ·go_simp
         obtain ⟨X152, hX152⟩ : ∃ X, X = X144.alloc (.cells #[.slice none 0 0] 28) := ⟨_, rfl⟩
         have belX152 : Below w2.heap.size w2 X152 := by rw [hX152]; exact belX144.alloc belX144.size _
         have hOX152 := hOX144.alloc (.cells #[.slice none 0 0] 28)
         rw [← hX152] at hOX152
         have hCX152 : Boxed X152 b7 23 (.slice (some ⟨W4.heap.size, 0, none⟩) 0 0) := by rw [hX152]; exact hCX144.alloc _
         obtain ⟨bb, hbb⟩ : ∃ bb, bb = X144.heap.size := ⟨_, rfl⟩
         have hbbw : w2.heap.size ≤ bb := by rw [hbb]; exact belX144.size
         have hBX152 : Boxed X152 bb 28 (.slice none 0 0) := by rw [hX152, hbb]; exact Boxed.new _ _ _
         rw [← hbb]
         clear hbb
         rw [← hX152]
         clear hX152
         refine hKK.out _ _ ⟨(PP.out.pbox.next belX152).1, belX152⟩ (fun _ => ?_)
         clear hKK KK
         try dsimp only [getElem_toArray, getElem_cons_succ, getElem_cons_zero, Act.put]
         try simp only [setIfInBounds_toArray, set_cons_zero, set_cons_succ]
         refine wpAnyH_ready (rs := [8]) (by kernel_rfl) (by simp) (AllReadyH.cons rfl (fun KK hKK => ?_) AllReadyH.nil)
         refine step_append_vals rfl (.tmp 39) (.tmp 41) 26 rfl w2.heap.size 23 i0 (.slice none 0 0) 1 24 Try.underlying26 HI0.out hz0 hz1 hz2 rfl (by decide) (.slice aX144 (N - K) cX144) (N - K) us rfl hOX152 (some ⟨b7, 0, none⟩) 1 1 [(.slice (some ⟨W4.heap.size, 0, none⟩) 0 0)] rfl rfl (boxed_news hCX152) (fun u hu => by rw [List.mem_singleton.1 hu]; rfl) (by unfold maxLen; omega) (by omega) belX152.size ?_
         intro vX153 X153 hOX153 hgX153
         have belX153 : Below w2.heap.size w2 X153 := row_below belX152 belX152.size hOX152 hgX153
         have hBX153 : Boxed X153 bb 28 (.slice none 0 0) := box_grown hBX152 hOX152 hgX153
         obtain ⟨aX153, cX153, hvX153⟩ := oslice hOX153
         subst hvX153
         clear hgX153
         refine hKK.out _ _ ⟨(PP.out.pbox.next belX153).1, belX153⟩ (fun _ => ?_)
         clear hKK KK
         try dsimp only [getElem_toArray, getElem_cons_succ, getElem_cons_zero, Act.put]
         try simp only [setIfInBounds_toArray, set_cons_zero, set_cons_succ]
         refine wpAnyH_ready (rs := [13]) (by kernel_rfl) (by simp) (AllReadyH.cons rfl (fun KK hKK => ?_) AllReadyH.nil)
         refine step_append_vals rfl (.tmp 42) (.tmp 46) 26 rfl w2.heap.size 23 i0 (.slice none 0 0) 1 24 Try.underlying26 HI0.out hz0 hz1 hz2 rfl (by decide) (.slice aX153 (N - K + 1) cX153) (N - K + 1) (us ++ [(.slice (some ⟨W4.heap.size, 0, none⟩) 0 0)]) rfl hOX153 (some ⟨pb, po, none⟩) K cp vs rfl (by rw [hvs.out, Nat.mul_one]) (hvsn.out _ (BW2.out.trans (belX153.mono BW2.out.size))) hvs1 (by unfold maxLen; omega) (by omega) belX153.size ?_
         intro vX154 X154 hOX154 hgX154
         have belX154 : Below w2.heap.size w2 X154 := row_below belX153 belX153.size hOX153 hgX154
         have hBX154 : Boxed X154 bb 28 (.slice none 0 0) := box_grown hBX153 hOX153 hgX154
         obtain ⟨aX154, cX154, hvX154⟩ := oslice hOX154
         subst hvX154
         clear hgX154
         refine hKK.out _ _ ⟨(PP.out.pbox.next belX154).1, belX154⟩ (fun _ => ?_)
         clear hKK KK
         try dsimp only [getElem_toArray, getElem_cons_succ, getElem_cons_zero, Act.put]
         try simp only [setIfInBounds_toArray, set_cons_zero, set_cons_succ]
         refine wpAnyH_take (i := 14) (v := ?_) rfl (by kernel_rfl) (by kernel_rfl) (by kernel_rfl) (fun _ _ _ h => h) (Or.inl ⟨by kernel_rfl, ?_⟩) ⟨(PP.out.pbox.next belX154).1, belX154⟩ ?_
         rotate_left
         ·(intro w0 z; (try dsimp only at z); obtain ⟨c0, hLB⟩ := z; go_simp; try with_reducible rfl)
         try dsimp only [getElem_toArray, getElem_cons_succ, getElem_cons_zero, Act.put]
         try simp only [setIfInBounds_toArray, set_cons_zero, set_cons_succ]
         refine wpAnyH_ready (rs := [16]) (by kernel_rfl) (by simp) (AllReadyH.cons rfl (fun KK hKK => ?_) AllReadyH.nil)
         have hcb := hBX154.cell
         have hfb := hBX154.frozen
         go_simp
         obtain ⟨X155, hX155⟩ : ∃ X, X = X154.setCell ⟨bb, 0, none⟩ (.slice aX154 (N - K + 1 + K) cX154) := ⟨_, rfl⟩
         have belX155 : Below w2.heap.size w2 X155 := by rw [hX155]; exact belX154.setCell (p := ⟨bb, 0, none⟩) hbbw _
         have hfin := turned_end (hO := hOX154) (hB := hBX154) (read_turned (g := W4.heap.size) husr.out hvsr.out) (BW2.out.trans (belX155.mono BW2.out.size)) hX155 (by rw [turned_length, HN0.out]; omega)
         rw [← hX155]
         clear hX155
         refine hKK.out _ _ ⟨(PP.out.pbox.next belX155).1, belX155⟩ (fun _ => ?_)
         clear hKK KK
         refine wpAnyH_done (by kernel_rfl) ?_ _
         try dsimp only [getElem_toArray, getElem_cons_succ, getElem_cons_zero, Act.put]
         try simp only [setIfInBounds_toArray, set_cons_zero, set_cons_succ]
         have hp := PP.out.next belX155
         go_wp2_with (fail)
         go_meet
         exact ⟨bb, _, rfl, hp, hfin.1, hfin.2⟩
       ·go_simp
        obtain ⟨X156, hX156⟩ : ∃ X, X = X143.alloc (.cells #[.slice none 0 0] 28) := ⟨_, rfl⟩
        have belX156 : Below w2.heap.size w2 X156 := by rw [hX156]; exact belX143.alloc belX143.size _
        have hOX156 := hOX143.alloc (.cells #[.slice none 0 0] 28)
        rw [← hX156] at hOX156
        have hCX156 : Boxed X156 b7 23 (.slice (some ⟨W4.heap.size, 0, none⟩) 0 0) := by rw [hX156]; exact hCX143.alloc _
        obtain ⟨bb, hbb⟩ : ∃ bb, bb = X143.heap.size := ⟨_, rfl⟩
        have hbbw : w2.heap.size ≤ bb := by rw [hbb]; exact belX143.size
        have hBX156 : Boxed X156 bb 28 (.slice none 0 0) := by rw [hX156, hbb]; exact Boxed.new _ _ _
        rw [← hbb]
        clear hbb
        rw [← hX156]
        clear hX156
        refine hKK.out _ _ ⟨(PP.out.pbox.next belX156).1, belX156⟩ (fun _ => ?_)
        clear hKK KK
        try dsimp only [getElem_toArray, getElem_cons_succ, getElem_cons_zero, Act.put]
        try simp only [setIfInBounds_toArray, set_cons_zero, set_cons_succ]
        refine wpAnyH_ready (rs := [5]) (by kernel_rfl) (by simp) (AllReadyH.cons rfl (fun KK hKK => ?_) AllReadyH.nil)
        refine step_append_vals rfl (.tmp 34) (.tmp 38) 26 rfl w2.heap.size 23 i0 (.slice none 0 0) 1 24 Try.underlying26 HI0.out hz0 hz1 hz2 rfl (by decide) (.slice (some ⟨X142.heap.size, 0, none⟩) 0 0) 0 [] rfl hOX156 (some ⟨pb, po + K, none⟩) (N - K) (cp - K) us rfl (by rw [hus.out, Nat.mul_one]) (husn.out _ (BW2.out.trans (belX156.mono BW2.out.size))) hus1 (by unfold maxLen; omega) (by omega) belX156.size ?_
        intro vX157 X157 hOX157 hgX157
        rw [Nat.zero_add, List.nil_append] at hOX157
        have belX157 : Below w2.heap.size w2 X157 := row_below belX156 belX156.size hOX156 hgX157
        have hBX157 : Boxed X157 bb 28 (.slice none 0 0) := box_grown hBX156 hOX156 hgX157
        have hCX157 := boxed_keep hCX156 hne7 hgX157
        obtain ⟨aX157, cX157, hvX157⟩ := oslice hOX157
        subst hvX157
        clear hgX157
        refine hKK.out _ _ ⟨(PP.out.pbox.next belX157).1, belX157⟩ (fun _ => ?_)
        clear hKK KK
        try dsimp only [getElem_toArray, getElem_cons_succ, getElem_cons_zero, Act.put]
        try simp only [setIfInBounds_toArray, set_cons_zero, set_cons_succ]
        refine wpAnyH_ready (rs := [8]) (by kernel_rfl) (by simp) (AllReadyH.cons rfl (fun KK hKK => ?_) AllReadyH.nil)
        refine step_append_vals rfl (.tmp 39) (.tmp 41) 26 rfl w2.heap.size 23 i0 (.slice none 0 0) 1 24 Try.underlying26 HI0.out hz0 hz1 hz2 rfl (by decide) (.slice aX157 (N - K) cX157) (N - K) us rfl hOX157 (some ⟨b7, 0, none⟩) 1 1 [(.slice (some ⟨W4.heap.size, 0, none⟩) 0 0)] rfl rfl (boxed_news hCX157) (fun u hu => by rw [List.mem_singleton.1 hu]; rfl) (by unfold maxLen; omega) (by omega) belX157.size ?_
        intro vX158 X158 hOX158 hgX158
        have belX158 : Below w2.heap.size w2 X158 := row_below belX157 belX157.size hOX157 hgX158
        have hBX158 : Boxed X158 bb 28 (.slice none 0 0) := box_grown hBX157 hOX157 hgX158
        obtain ⟨aX158, cX158, hvX158⟩ := oslice hOX158
        subst hvX158
        clear hgX158
        refine hKK.out _ _ ⟨(PP.out.pbox.next belX158).1, belX158⟩ (fun _ => ?_)
        clear hKK KK
        try dsimp only [getElem_toArray, getElem_cons_succ, getElem_cons_zero, Act.put]
        try simp only [setIfInBounds_toArray, set_cons_zero, set_cons_succ]
        refine wpAnyH_ready (rs := [13]) (by kernel_rfl) (by simp) (AllReadyH.cons rfl (fun KK hKK => ?_) AllReadyH.nil)
        refine step_append_vals rfl (.tmp 42) (.tmp 46) 26 rfl w2.heap.size 23 i0 (.slice none 0 0) 1 24 Try.underlying26 HI0.out hz0 hz1 hz2 rfl (by decide) (.slice aX158 (N - K + 1) cX158) (N - K + 1) (us ++ [(.slice (some ⟨W4.heap.size, 0, none⟩) 0 0)]) rfl hOX158 (some ⟨pb, po, none⟩) K cp vs rfl (by rw [hvs.out, Nat.mul_one]) (hvsn.out _ (BW2.out.trans (belX158.mono BW2.out.size))) hvs1 (by unfold maxLen; omega) (by omega) belX158.size ?_
        intro vX159 X159 hOX159 hgX159
        have belX159 : Below w2.heap.size w2 X159 := row_below belX158 belX158.size hOX158 hgX159
        have hBX159 : Boxed X159 bb 28 (.slice none 0 0) := box_grown hBX158 hOX158 hgX159
        obtain ⟨aX159, cX159, hvX159⟩ := oslice hOX159
        subst hvX159
        clear hgX159
        refine hKK.out _ _ ⟨(PP.out.pbox.next belX159).1, belX159⟩ (fun _ => ?_)
        clear hKK KK
        try dsimp only [getElem_toArray, getElem_cons_succ, getElem_cons_zero, Act.put]
        try simp only [setIfInBounds_toArray, set_cons_zero, set_cons_succ]
        refine wpAnyH_take (i := 14) (v := ?_) rfl (by kernel_rfl) (by kernel_rfl) (by kernel_rfl) (fun _ _ _ h => h) (Or.inl ⟨by kernel_rfl, ?_⟩) ⟨(PP.out.pbox.next belX159).1, belX159⟩ ?_
        rotate_left
        ·(intro w0 z; (try dsimp only at z); obtain ⟨c0, hLB⟩ := z; go_simp; try with_reducible rfl)
        try dsimp only [getElem_toArray, getElem_cons_succ, getElem_cons_zero, Act.put]
        try simp only [setIfInBounds_toArray, set_cons_zero, set_cons_succ]
        refine wpAnyH_ready (rs := [16]) (by kernel_rfl) (by simp) (AllReadyH.cons rfl (fun KK hKK => ?_) AllReadyH.nil)
        have hcb := hBX159.cell
        have hfb := hBX159.frozen
        go_simp
        obtain ⟨X160, hX160⟩ : ∃ X, X = X159.setCell ⟨bb, 0, none⟩ (.slice aX159 (N - K + 1 + K) cX159) := ⟨_, rfl⟩
        have belX160 : Below w2.heap.size w2 X160 := by rw [hX160]; exact belX159.setCell (p := ⟨bb, 0, none⟩) hbbw _
        have hfin := turned_end (hO := hOX159) (hB := hBX159) (read_turned (g := W4.heap.size) husr.out hvsr.out) (BW2.out.trans (belX160.mono BW2.out.size)) hX160 (by rw [turned_length, HN0.out]; omega)
        rw [← hX160]
        clear hX160
        refine hKK.out _ _ ⟨(PP.out.pbox.next belX160).1, belX160⟩ (fun _ => ?_)
        clear hKK KK
        refine wpAnyH_done (by kernel_rfl) ?_ _
        try dsimp only [getElem_toArray, getElem_cons_succ, getElem_cons_zero, Act.put]
        try simp only [setIfInBounds_toArray, set_cons_zero, set_cons_succ]
        have hp := PP.out.next belX160
        go_wp2_with (fail)
        go_meet
        exact ⟨bb, _, rfl, hp, hfin.1, hfin.2⟩
      ·go_simp
       obtain ⟨X161, hX161⟩ : ∃ X, X = X142.alloc (.cells #[.slice none 0 0] 28) := ⟨_, rfl⟩
       have belX161 : Below w2.heap.size w2 X161 := by rw [hX161]; exact belX142.alloc belX142.size _
       have hCX161 : Boxed X161 b7 23 (.slice (some ⟨W4.heap.size, 0, none⟩) 0 0) := by rw [hX161]; exact hCX142.alloc _
       obtain ⟨bb, hbb⟩ : ∃ bb, bb = X142.heap.size := ⟨_, rfl⟩
       have hbbw : w2.heap.size ≤ bb := by rw [hbb]; exact belX142.size
       have hBX161 : Boxed X161 bb 28 (.slice none 0 0) := by rw [hX161, hbb]; exact Boxed.new _ _ _
       rw [← hbb]
       clear hbb
       rw [← hX161]
       clear hX161
       refine hKK.out _ _ ⟨(PP.out.pbox.next belX161).1, belX161⟩ (fun _ => ?_)
       clear hKK KK
       try dsimp only [getElem_toArray, getElem_cons_succ, getElem_cons_zero, Act.put]
       try simp only [setIfInBounds_toArray, set_cons_zero, set_cons_succ]
       refine wpAnyH_ready (rs := [0]) (by kernel_rfl) (by simp) (AllReadyH.cons rfl (fun KK hKK => ?_) AllReadyH.nil)
       go_simp
       obtain ⟨X162, hX162⟩ : ∃ X, X = X161.alloc (.cells #[] 23) := ⟨_, rfl⟩
       have belX162 : Below w2.heap.size w2 X162 := by rw [hX162]; exact belX161.alloc belX161.size _
       have hBX162 : Boxed X162 bb 28 (.slice none 0 0) := by rw [hX162]; exact hBX161.alloc _
       have hCX162 : Boxed X162 b7 23 (.slice (some ⟨W4.heap.size, 0, none⟩) 0 0) := by rw [hX162]; exact hCX161.alloc _
       have hOX162 : X162.ownsRow w2.heap.size 23 1 (.slice (some ⟨X161.heap.size, 0, none⟩) 0 0) 0 [] := by rw [hX162]; exact rowS (World.alloc_heap_new _ _) belX161.size
       have hne7 : (Value.slice (some ⟨X161.heap.size, 0, none⟩) 0 0).ownBlock ≠ some b7 := fun e => by have e1 : X161.heap.size = b7 := Option.some.inj e; have := hCX161.lt; omega
       rw [← hX162]
       clear hX162
       refine hKK.out _ _ ⟨(PP.out.pbox.next belX162).1, belX162⟩ (fun _ => ?_)
       clear hKK KK
       try dsimp only [getElem_toArray, getElem_cons_succ, getElem_cons_zero, Act.put]
       try simp only [setIfInBounds_toArray, set_cons_zero, set_cons_succ]
       refine wpAnyH_ready (rs := [5]) (by kernel_rfl) (by simp) (AllReadyH.cons rfl (fun KK hKK => ?_) AllReadyH.nil)
       refine step_append_vals rfl (.tmp 34) (.tmp 38) 26 rfl w2.heap.size 23 i0 (.slice none 0 0) 1 24 Try.underlying26 HI0.out hz0 hz1 hz2 rfl (by decide) (.slice (some ⟨X161.heap.size, 0, none⟩) 0 0) 0 [] rfl hOX162 (some ⟨pb, po + K, none⟩) (N - K) (cp - K) us rfl (by rw [hus.out, Nat.mul_one]) (husn.out _ (BW2.out.trans (belX162.mono BW2.out.size))) hus1 (by unfold maxLen; omega) (by omega) belX162.size ?_
       intro vX163 X163 hOX163 hgX163
       rw [Nat.zero_add, List.nil_append] at hOX163
       have belX163 : Below w2.heap.size w2 X163 := row_below belX162 belX162.size hOX162 hgX163
       have hBX163 : Boxed X163 bb 28 (.slice none 0 0) := box_grown hBX162 hOX162 hgX163
       have hCX163 := boxed_keep hCX162 hne7 hgX163
       obtain ⟨aX163, cX163, hvX163⟩ := oslice hOX163
       subst hvX163
       clear hgX163
       refine hKK.out _ _ ⟨(PP.out.pbox.next belX163).1, belX163⟩ (fun _ => ?_)
       clear hKK KK
       try dsimp only [getElem_toArray, getElem_cons_succ, getElem_cons_zero, Act.put]
       try simp only [setIfInBounds_toArray, set_cons_zero, set_cons_succ]
       refine wpAnyH_ready (rs := [8]) (by kernel_rfl) (by simp) (AllReadyH.cons rfl (fun KK hKK => ?_) AllReadyH.nil)
       refine step_append_vals rfl (.tmp 39) (.tmp 41) 26 rfl w2.heap.size 23 i0 (.slice none 0 0) 1 24 Try.underlying26 HI0.out hz0 hz1 hz2 rfl (by decide) (.slice aX163 (N - K) cX163) (N - K) us rfl hOX163 (some ⟨b7, 0, none⟩) 1 1 [(.slice (some ⟨W4.heap.size, 0, none⟩) 0 0)] rfl rfl (boxed_news hCX163) (fun u hu => by rw [List.mem_singleton.1 hu]; rfl) (by unfold maxLen; omega) (by omega) belX163.size ?_
       intro vX164 X164 hOX164 hgX164
       have belX164 : Below w2.heap.size w2 X164 := row_below belX163 belX163.size hOX163 hgX164
       have hBX164 : Boxed X164 bb 28 (.slice none 0 0) := box_grown hBX163 hOX163 hgX164
       obtain ⟨aX164, cX164, hvX164⟩ := oslice hOX164
       subst hvX164
       clear hgX164
       refine hKK.out _ _ ⟨(PP.out.pbox.next belX164).1, belX164⟩ (fun _ => ?_)
       clear hKK KK
       try dsimp only [getElem_toArray, getElem_cons_succ, getElem_cons_zero, Act.put]
       try simp only [setIfInBounds_toArray, set_cons_zero, set_cons_succ]
       refine wpAnyH_ready (rs := [13]) (by kernel_rfl) (by simp) (AllReadyH.cons rfl (fun KK hKK => ?_) AllReadyH.nil)
       refine step_append_vals rfl (.tmp 42) (.tmp 46) 26 rfl w2.heap.size 23 i0 (.slice none 0 0) 1 24 Try.underlying26 HI0.out hz0 hz1 hz2 rfl (by decide) (.slice aX164 (N - K + 1) cX164) (N - K + 1) (us ++ [(.slice (some ⟨W4.heap.size, 0, none⟩) 0 0)]) rfl hOX164 (some ⟨pb, po, none⟩) K cp vs rfl (by rw [hvs.out, Nat.mul_one]) (hvsn.out _ (BW2.out.trans (belX164.mono BW2.out.size))) hvs1 (by unfold maxLen; omega) (by omega) belX164.size ?_
       intro vX165 X165 hOX165 hgX165
       have belX165 : Below w2.heap.size w2 X165 := row_below belX164 belX164.size hOX164 hgX165
       have hBX165 : Boxed X165 bb 28 (.slice none 0 0) := box_grown hBX164 hOX164 hgX165
       obtain ⟨aX165, cX165, hvX165⟩ := oslice hOX165
       subst hvX165
       clear hgX165
       refine hKK.out _ _ ⟨(PP.out.pbox.next belX165).1, belX165⟩ (fun _ => ?_)
       clear hKK KK
       try dsimp only [getElem_toArray, getElem_cons_succ, getElem_cons_zero, Act.put]
       try simp only [setIfInBounds_toArray, set_cons_zero, set_cons_succ]
       refine wpAnyH_take (i := 14) (v := ?_) rfl (by kernel_rfl) (by kernel_rfl) (by kernel_rfl) (fun _ _ _ h => h) (Or.inl ⟨by kernel_rfl, ?_⟩) ⟨(PP.out.pbox.next belX165).1, belX165⟩ ?_
       rotate_left
       ·(intro w0 z; (try dsimp only at z); obtain ⟨c0, hLB⟩ := z; go_simp; try with_reducible rfl)
       try dsimp only [getElem_toArray, getElem_cons_succ, getElem_cons_zero, Act.put]
       try simp only [setIfInBounds_toArray, set_cons_zero, set_cons_succ]
       refine wpAnyH_ready (rs := [16]) (by kernel_rfl) (by simp) (AllReadyH.cons rfl (fun KK hKK => ?_) AllReadyH.nil)
       have hcb := hBX165.cell
       have hfb := hBX165.frozen
       go_simp
       obtain ⟨X166, hX166⟩ : ∃ X, X = X165.setCell ⟨bb, 0, none⟩ (.slice aX165 (N - K + 1 + K) cX165) := ⟨_, rfl⟩
       have belX166 : Below w2.heap.size w2 X166 := by rw [hX166]; exact belX165.setCell (p := ⟨bb, 0, none⟩) hbbw _
       have hfin := turned_end (hO := hOX165) (hB := hBX165) (read_turned (g := W4.heap.size) husr.out hvsr.out) (BW2.out.trans (belX166.mono BW2.out.size)) hX166 (by rw [turned_length, HN0.out]; omega)
       rw [← hX166]
       clear hX166
       refine hKK.out _ _ ⟨(PP.out.pbox.next belX166).1, belX166⟩ (fun _ => ?_)
       clear hKK KK
       refine wpAnyH_done (by kernel_rfl) ?_ _
       try dsimp only [getElem_toArray, getElem_cons_succ, getElem_cons_zero, Act.put]
       try simp only [setIfInBounds_toArray, set_cons_zero, set_cons_succ]
       have hp := PP.out.next belX166
       go_wp2_with (fail)
       go_meet
       exact ⟨bb, _, rfl, hp, hfin.1, hfin.2⟩
     ·go_simp
      obtain ⟨X167, hX167⟩ : ∃ X, X = X93.alloc (.cells #[.slice none 0 0] 28) := ⟨_, rfl⟩
      have belX167 : Below w2.heap.size w2 X167 := by rw [hX167]; exact belX93.alloc belX93.size _
      obtain ⟨bb, hbb⟩ : ∃ bb, bb = X93.heap.size := ⟨_, rfl⟩
      have hbbw : w2.heap.size ≤ bb := by rw [hbb]; exact belX93.size
      have hBX167 : Boxed X167 bb 28 (.slice none 0 0) := by rw [hX167, hbb]; exact Boxed.new _ _ _
      rw [← hbb]
      clear hbb
      rw [← hX167]
      clear hX167
      refine hKK.out _ _ ⟨(PP.out.pbox.next belX167).1, belX167⟩ (fun _ => ?_)
      clear hKK KK
      try dsimp only [getElem_toArray, getElem_cons_succ, getElem_cons_zero, Act.put]
      try simp only [setIfInBounds_toArray, set_cons_zero, set_cons_succ]
      refine wpAnyH_ready (rs := [0, 7]) (by kernel_rfl) (by simp) (AllReadyH.cons rfl (fun KK hKK => ?_) (AllReadyH.cons rfl (fun KK hKK => ?_) AllReadyH.nil))
      ·go_simp
       obtain ⟨X168, hX168⟩ : ∃ X, X = X167.alloc (.cells #[] 23) := ⟨_, rfl⟩
       have belX168 : Below w2.heap.size w2 X168 := by rw [hX168]; exact belX167.alloc belX167.size _
       have hBX168 : Boxed X168 bb 28 (.slice none 0 0) := by rw [hX168]; exact hBX167.alloc _
       have hOX168 : X168.ownsRow w2.heap.size 23 1 (.slice (some ⟨X167.heap.size, 0, none⟩) 0 0) 0 [] := by rw [hX168]; exact rowS (World.alloc_heap_new _ _) belX167.size
       rw [← hX168]
       clear hX168
       refine hKK.out _ _ ⟨(PP.out.pbox.next belX168).1, belX168⟩ (fun _ => ?_)
       clear hKK KK
       try dsimp only [getElem_toArray, getElem_cons_succ, getElem_cons_zero, Act.put]
       try simp only [setIfInBounds_toArray, set_cons_zero, set_cons_succ]
       refine wpAnyH_ready (rs := [5, 7]) (by kernel_rfl) (by simp) (AllReadyH.cons rfl (fun KK hKK => ?_) (AllReadyH.cons rfl (fun KK hKK => ?_) AllReadyH.nil))
       ·refine step_append_vals rfl (.tmp 34) (.tmp 38) 26 rfl w2.heap.size 23 i0 (.slice none 0 0) 1 24 Try.underlying26 HI0.out hz0 hz1 hz2 rfl (by decide) (.slice (some ⟨X167.heap.size, 0, none⟩) 0 0) 0 [] rfl hOX168 (some ⟨pb, po + K, none⟩) (N - K) (cp - K) us rfl (by rw [hus.out, Nat.mul_one]) (husn.out _ (BW2.out.trans (belX168.mono BW2.out.size))) hus1 (by unfold maxLen; omega) (by omega) belX168.size ?_
        intro vX169 X169 hOX169 hgX169
        rw [Nat.zero_add, List.nil_append] at hOX169
        have belX169 : Below w2.heap.size w2 X169 := row_below belX168 belX168.size hOX168 hgX169
        have hBX169 : Boxed X169 bb 28 (.slice none 0 0) := box_grown hBX168 hOX168 hgX169
        obtain ⟨aX169, cX169, hvX169⟩ := oslice hOX169
        subst hvX169
        clear hgX169
        refine hKK.out _ _ ⟨(PP.out.pbox.next belX169).1, belX169⟩ (fun _ => ?_)
        clear hKK KK
        try dsimp only [getElem_toArray, getElem_cons_succ, getElem_cons_zero, Act.put]
        try simp only [setIfInBounds_toArray, set_cons_zero, set_cons_succ]
        refine wpAnyH_ready (rs := [7]) (by kernel_rfl) (by simp) (AllReadyH.cons rfl (fun KK hKK => ?_) AllReadyH.nil)
        go_simp
        obtain ⟨X170, hX170⟩ : ∃ X, X = X169.alloc (.cells #[(.slice (some ⟨W4.heap.size, 0, none⟩) 0 0)] 23) := ⟨_, rfl⟩
        have belX170 : Below w2.heap.size w2 X170 := by rw [hX170]; exact belX169.alloc belX169.size _
        have hOX170 := hOX169.alloc (.cells #[(.slice (some ⟨W4.heap.size, 0, none⟩) 0 0)] 23)
        rw [← hX170] at hOX170
        have hBX170 : Boxed X170 bb 28 (.slice none 0 0) := by rw [hX170]; exact hBX169.alloc _
        obtain ⟨b7, hb7⟩ : ∃ b7, b7 = X169.heap.size := ⟨_, rfl⟩
        have hCX170 : Boxed X170 b7 23 (.slice (some ⟨W4.heap.size, 0, none⟩) 0 0) := by rw [hX170, hb7]; exact Boxed.new _ _ _
        have hne7 : ((.slice aX169 (N - K) cX169) : Value).ownBlock ≠ some b7 := by rw [hb7]; exact own_fresh hOX169
        rw [← hb7]
        clear hb7
        rw [← hX170]
        clear hX170
        refine hKK.out _ _ ⟨(PP.out.pbox.next belX170).1, belX170⟩ (fun _ => ?_)
        clear hKK KK
        try dsimp only [getElem_toArray, getElem_cons_succ, getElem_cons_zero, Act.put]
        try simp only [setIfInBounds_toArray, set_cons_zero, set_cons_succ]
        refine wpAnyH_ready (rs := [8]) (by kernel_rfl) (by simp) (AllReadyH.cons rfl (fun KK hKK => ?_) AllReadyH.nil)
        refine step_append_vals rfl (.tmp 39) (.tmp 41) 26 rfl w2.heap.size 23 i0 (.slice none 0 0) 1 24 Try.underlying26 HI0.out hz0 hz1 hz2 rfl (by decide) (.slice aX169 (N - K) cX169) (N - K) us rfl hOX170 (some ⟨b7, 0, none⟩) 1 1 [(.slice (some ⟨W4.heap.size, 0, none⟩) 0 0)] rfl rfl (boxed_news hCX170) (fun u hu => by rw [List.mem_singleton.1 hu]; rfl) (by unfold maxLen; omega) (by omega) belX170.size ?_
        intro vX171 X171 hOX171 hgX171
        have belX171 : Below w2.heap.size w2 X171 := row_below belX170 belX170.size hOX170 hgX171
        have hBX171 : Boxed X171 bb 28 (.slice none 0 0) := box_grown hBX170 hOX170 hgX171
        obtain ⟨aX171, cX171, hvX171⟩ := oslice hOX171
        subst hvX171
        clear hgX171
        refine hKK.out _ _ ⟨(PP.out.pbox.next belX171).1, belX171⟩ (fun _ => ?_)
        clear hKK KK
        try dsimp only [getElem_toArray, getElem_cons_succ, getElem_cons_zero, Act.put]
        try simp only [setIfInBounds_toArray, set_cons_zero, set_cons_succ]
        refine wpAnyH_ready (rs := [13]) (by kernel_rfl) (by simp) (AllReadyH.cons rfl (fun KK hKK => ?_) AllReadyH.nil)
        refine step_append_vals rfl (.tmp 42) (.tmp 46) 26 rfl w2.heap.size 23 i0 (.slice none 0 0) 1 24 Try.underlying26 HI0.out hz0 hz1 hz2 rfl (by decide) (.slice aX171 (N - K + 1) cX171) (N - K + 1) (us ++ [(.slice (some ⟨W4.heap.size, 0, none⟩) 0 0)]) rfl hOX171 (some ⟨pb, po, none⟩) K cp vs rfl (by rw [hvs.out, Nat.mul_one]) (hvsn.out _ (BW2.out.trans (belX171.mono BW2.out.size))) hvs1 (by unfold maxLen; omega) (by omega) belX171.size ?_
        intro vX172 X172 hOX172 hgX172
        have belX172 : Below w2.heap.size w2 X172 := row_below belX171 belX171.size hOX171 hgX172
        have hBX172 : Boxed X172 bb 28 (.slice none 0 0) := box_grown hBX171 hOX171 hgX172
        obtain ⟨aX172, cX172, hvX172⟩ := oslice hOX172
        subst hvX172
        clear hgX172
        refine hKK.out _ _ ⟨(PP.out.pbox.next belX172).1, belX172⟩ (fun _ => ?_)
        clear hKK KK
        try dsimp only [getElem_toArray, getElem_cons_succ, getElem_cons_zero, Act.put]
        try simp only [setIfInBounds_toArray, set_cons_zero, set_cons_succ]
        refine wpAnyH_take (i := 14) (v := ?_) rfl (by kernel_rfl) (by kernel_rfl) (by kernel_rfl) (fun _ _ _ h => h) (Or.inl ⟨by kernel_rfl, ?_⟩) ⟨(PP.out.pbox.next belX172).1, belX172⟩ ?_
        rotate_left
        ·(intro w0 z; (try dsimp only at z); obtain ⟨c0, hLB⟩ := z; go_simp; try with_reducible rfl)
        try dsimp only [getElem_toArray, getElem_cons_succ, getElem_cons_zero, Act.put]
        try simp only [setIfInBounds_toArray, set_cons_zero, set_cons_succ]
        refine wpAnyH_ready (rs := [16]) (by kernel_rfl) (by simp) (AllReadyH.cons rfl (fun KK hKK => ?_) AllReadyH.nil)
        have hcb := hBX172.cell
        have hfb := hBX172.frozen
        go_simp
        obtain ⟨X173, hX173⟩ : ∃ X, X = X172.setCell ⟨bb, 0, none⟩ (.slice aX172 (N - K + 1 + K) cX172) := ⟨_, rfl⟩
        have belX173 : Below w2.heap.size w2 X173 := by rw [hX173]; exact belX172.setCell (p := ⟨bb, 0, none⟩) hbbw _
        have hfin := turned_end (hO := hOX172) (hB := hBX172) (read_turned (g := W4.heap.size) husr.out hvsr.out) (BW2.out.trans (belX173.mono BW2.out.size)) hX173 (by rw [turned_length, HN0.out]; omega)
        rw [← hX173]
        clear hX173
        refine hKK.out _ _ ⟨(PP.out.pbox.next belX173).1, belX173⟩ (fun _ => ?_)
        clear hKK KK
        refine wpAnyH_done (by kernel_rfl) ?_ _
        try dsimp only [getElem_toArray, getElem_cons_succ, getElem_cons_zero, Act.put]
        try simp only [setIfInBounds_toArray, set_cons_zero, set_cons_succ]
        have hp := PP.out.next belX173
        go_wp2_with (fail)
        go_meet
        exact ⟨bb, _, rfl, hp, hfin.1, hfin.2⟩
       ·go_simp
        obtain ⟨X174, hX174⟩ : ∃ X, X = X168.alloc (.cells #[(.slice (some ⟨W4.heap.size, 0, none⟩) 0 0)] 23) := ⟨_, rfl⟩
        have belX174 : Below w2.heap.size w2 X174 := by rw [hX174]; exact belX168.alloc belX168.size _
        have hOX174 := hOX168.alloc (.cells #[(.slice (some ⟨W4.heap.size, 0, none⟩) 0 0)] 23)
        rw [← hX174] at hOX174
        have hBX174 : Boxed X174 bb 28 (.slice none 0 0) := by rw [hX174]; exact hBX168.alloc _
        obtain ⟨b7, hb7⟩ : ∃ b7, b7 = X168.heap.size := ⟨_, rfl⟩
        have hCX174 : Boxed X174 b7 23 (.slice (some ⟨W4.heap.size, 0, none⟩) 0 0) := by rw [hX174, hb7]; exact Boxed.new _ _ _
        have hne7 : ((.slice (some ⟨X167.heap.size, 0, none⟩) 0 0) : Value).ownBlock ≠ some b7 := by rw [hb7]; exact own_fresh hOX168
        rw [← hb7]
        clear hb7
        rw [← hX174]
        clear hX174
        refine hKK.out _ _ ⟨(PP.out.pbox.next belX174).1, belX174⟩ (fun _ => ?_)
        clear hKK KK
        try dsimp only [getElem_toArray, getElem_cons_succ, getElem_cons_zero, Act.put]
        try simp only [setIfInBounds_toArray, set_cons_zero, set_cons_succ]
        refine wpAnyH_ready (rs := [5]) (by kernel_rfl) (by simp) (AllReadyH.cons rfl (fun KK hKK => ?_) AllReadyH.nil)
        refine step_append_vals rfl (.tmp 34) (.tmp 38) 26 rfl w2.heap.size 23 i0 (.slice none 0 0) 1 24 Try.underlying26 HI0.out hz0 hz1 hz2 rfl (by decide) (.slice (some ⟨X167.heap.size, 0, none⟩) 0 0) 0 [] rfl hOX174 (some ⟨pb, po + K, none⟩) (N - K) (cp - K) us rfl (by rw [hus.out, Nat.mul_one]) (husn.out _ (BW2.out.trans (belX174.mono BW2.out.size))) hus1 (by unfold maxLen; omega) (by omega) belX174.size ?_
        intro vX175 X175 hOX175 hgX175
        rw [Nat.zero_add, List.nil_append] at hOX175
        have belX175 : Below w2.heap.size w2 X175 := row_below belX174 belX174.size hOX174 hgX175
        have hBX175 : Boxed X175 bb 28 (.slice none 0 0) := box_grown hBX174 hOX174 hgX175
        have hCX175 := boxed_keep hCX174 hne7 hgX175
        obtain ⟨aX175, cX175, hvX175⟩ := oslice hOX175
        subst hvX175
        clear hgX175
        refine hKK.out _ _ ⟨(PP.out.pbox.next belX175).1, belX175⟩ (fun _ => ?_)
        clear hKK KK
        try dsimp only [getElem_toArray, getElem_cons_succ, getElem_cons_zero, Act.put]
        try simp only [setIfInBounds_toArray, set_cons_zero, set_cons_succ]
        refine wpAnyH_ready (rs := [8]) (by kernel_rfl) (by simp) (AllReadyH.cons rfl (fun KK hKK => ?_) AllReadyH.nil)
        refine step_append_vals rfl (.tmp 39) (.tmp 41) 26 rfl w2.heap.size 23 i0 (.slice none 0 0) 1 24 Try.underlying26 HI0.out hz0 hz1 hz2 rfl (by decide) (.slice aX175 (N - K) cX175) (N - K) us rfl hOX175 (some ⟨b7, 0, none⟩) 1 1 [(.slice (some ⟨W4.heap.size, 0, none⟩) 0 0)] rfl rfl (boxed_news hCX175) (fun u hu => by rw [List.mem_singleton.1 hu]; rfl) (by unfold maxLen; omega) (by omega) belX175.size ?_
        intro vX176 X176 hOX176 hgX176
        have belX176 : Below w2.heap.size w2 X176 := row_below belX175 belX175.size hOX175 hgX176
        have hBX176 : Boxed X176 bb 28 (.slice none 0 0) := box_grown hBX175 hOX175 hgX176
        obtain ⟨aX176, cX176, hvX176⟩ := oslice hOX176
        subst hvX176
        clear hgX176
        refine hKK.out _ _ ⟨(PP.out.pbox.next belX176).1, belX176⟩ (fun _ => ?_)
        clear hKK KK
        try dsimp only [getElem_toArray, getElem_cons_succ, getElem_cons_zero, Act.put]
        try simp only [setIfInBounds_toArray, set_cons_zero, set_cons_succ]
        refine wpAnyH_ready (rs := [13]) (by kernel_rfl) (by simp) (AllReadyH.cons rfl (fun KK hKK => ?_) AllReadyH.nil)
        refine step_append_vals rfl (.tmp 42) (.tmp 46) 26 rfl w2.heap.size 23 i0 (.slice none 0 0) 1 24 Try.underlying26 HI0.out hz0 hz1 hz2 rfl (by decide) (.slice aX176 (N - K + 1) cX176) (N - K + 1) (us ++ [(.slice (some ⟨W4.heap.size, 0, none⟩) 0 0)]) rfl hOX176 (some ⟨pb, po, none⟩) K cp vs rfl (by rw [hvs.out, Nat.mul_one]) (hvsn.out _ (BW2.out.trans (belX176.mono BW2.out.size))) hvs1 (by unfold maxLen; omega) (by omega) belX176.size ?_
        intro vX177 X177 hOX177 hgX177
        have belX177 : Below w2.heap.size w2 X177 := row_below belX176 belX176.size hOX176 hgX177
        have hBX177 : Boxed X177 bb 28 (.slice none 0 0) := box_grown hBX176 hOX176 hgX177
        obtain ⟨aX177, cX177, hvX177⟩ := oslice hOX177
        subst hvX177
        clear hgX177
        refine hKK.out _ _ ⟨(PP.out.pbox.next belX177).1, belX177⟩ (fun _ => ?_)
        clear hKK KK
        try dsimp only [getElem_toArray, getElem_cons_succ, getElem_cons_zero, Act.put]
        try simp only [setIfInBounds_toArray, set_cons_zero, set_cons_succ]
        refine wpAnyH_take (i := 14) (v := ?_) rfl (by kernel_rfl) (by kernel_rfl) (by kernel_rfl) (fun _ _ _ h => h) (Or.inl ⟨by kernel_rfl, ?_⟩) ⟨(PP.out.pbox.next belX177).1, belX177⟩ ?_
        rotate_left
        ·(intro w0 z; (try dsimp only at z); obtain ⟨c0, hLB⟩ := z; go_simp; try with_reducible rfl)
        try dsimp only [getElem_toArray, getElem_cons_succ, getElem_cons_zero, Act.put]
        try simp only [setIfInBounds_toArray, set_cons_zero, set_cons_succ]
        refine wpAnyH_ready (rs := [16]) (by kernel_rfl) (by simp) (AllReadyH.cons rfl (fun KK hKK => ?_) AllReadyH.nil)
        have hcb := hBX177.cell
        have hfb := hBX177.frozen
        go_simp
        obtain ⟨X178, hX178⟩ : ∃ X, X = X177.setCell ⟨bb, 0, none⟩ (.slice aX177 (N - K + 1 + K) cX177) := ⟨_, rfl⟩
        have belX178 : Below w2.heap.size w2 X178 := by rw [hX178]; exact belX177.setCell (p := ⟨bb, 0, none⟩) hbbw _
        have hfin := turned_end (hO := hOX177) (hB := hBX177) (read_turned (g := W4.heap.size) husr.out hvsr.out) (BW2.out.trans (belX178.mono BW2.out.size)) hX178 (by rw [turned_length, HN0.out]; omega)
        rw [← hX178]
        clear hX178
        refine hKK.out _ _ ⟨(PP.out.pbox.next belX178).1, belX178⟩ (fun _ => ?_)
        clear hKK KK
        refine wpAnyH_done (by kernel_rfl) ?_ _
        try dsimp only [getElem_toArray, getElem_cons_succ, getElem_cons_zero, Act.put]
        try simp only [setIfInBounds_toArray, set_cons_zero, set_cons_succ]
        have hp := PP.out.next belX178
        go_wp2_with (fail)
        go_meet
        exact ⟨bb, _, rfl, hp, hfin.1, hfin.2⟩
      ·go_simp
       obtain ⟨X179, hX179⟩ : ∃ X, X = X167.alloc (.cells #[(.slice (some ⟨W4.heap.size, 0, none⟩) 0 0)] 23) := ⟨_, rfl⟩
       have belX179 : Below w2.heap.size w2 X179 := by rw [hX179]; exact belX167.alloc belX167.size _
       have hBX179 : Boxed X179 bb 28 (.slice none 0 0) := by rw [hX179]; exact hBX167.alloc _
       obtain ⟨b7, hb7⟩ : ∃ b7, b7 = X167.heap.size := ⟨_, rfl⟩
       have hCX179 : Boxed X179 b7 23 (.slice (some ⟨W4.heap.size, 0, none⟩) 0 0) := by rw [hX179, hb7]; exact Boxed.new _ _ _
       rw [← hb7]
       clear hb7
       rw [← hX179]
       clear hX179
       refine hKK.out _ _ ⟨(PP.out.pbox.next belX179).1, belX179⟩ (fun _ => ?_)
       clear hKK KK
       try dsimp only [getElem_toArray, getElem_cons_succ, getElem_cons_zero, Act.put]
       try simp only [setIfInBounds_toArray, set_cons_zero, set_cons_succ]
       refine wpAnyH_ready (rs := [0]) (by kernel_rfl) (by simp) (AllReadyH.cons rfl (fun KK hKK => ?_) AllReadyH.nil)
       go_simp
       obtain ⟨X180, hX180⟩ : ∃ X, X = X179.alloc (.cells #[] 23) := ⟨_, rfl⟩
       have belX180 : Below w2.heap.size w2 X180 := by rw [hX180]; exact belX179.alloc belX179.size _
       have hBX180 : Boxed X180 bb 28 (.slice none 0 0) := by rw [hX180]; exact hBX179.alloc _
       have hCX180 : Boxed X180 b7 23 (.slice (some ⟨W4.heap.size, 0, none⟩) 0 0) := by rw [hX180]; exact hCX179.alloc _
       have hOX180 : X180.ownsRow w2.heap.size 23 1 (.slice (some ⟨X179.heap.size, 0, none⟩) 0 0) 0 [] := by rw [hX180]; exact rowS (World.alloc_heap_new _ _) belX179.size
       have hne7 : (Value.slice (some ⟨X179.heap.size, 0, none⟩) 0 0).ownBlock ≠ some b7 := fun e => by have e1 : X179.heap.size = b7 := Option.some.inj e; have := hCX179.lt; omega
       rw [← hX180]
       clear hX180
       refine hKK.out _ _ ⟨(PP.out.pbox.next belX180).1, belX180⟩ (fun _ => ?_)
       clear hKK KK
       try dsimp only [getElem_toArray, getElem_cons_succ, getElem_cons_zero, Act.put]
       try simp only [setIfInBounds_toArray, set_cons_zero, set_cons_succ]
       refine wpAnyH_ready (rs := [5]) (by kernel_rfl) (by simp) (AllReadyH.cons rfl (fun KK hKK => ?_) AllReadyH.nil)
       refine step_append_vals rfl (.tmp 34) (.tmp 38) 26 rfl w2.heap.size 23 i0 (.slice none 0 0) 1 24 Try.underlying26 HI0.out hz0 hz1 hz2 rfl (by decide) (.slice (some ⟨X179.heap.size, 0, none⟩) 0 0) 0 [] rfl hOX180 (some ⟨pb, po + K, none⟩) (N - K) (cp - K) us rfl (by rw [hus.out, Nat.mul_one]) (husn.out _ (BW2.out.trans (belX180.mono BW2.out.size))) hus1 (by unfold maxLen; omega) (by omega) belX180.size ?_
       intro vX181 X181 hOX181 hgX181
       rw [Nat.zero_add, List.nil_append] at hOX181
       have belX181 : Below w2.heap.size w2 X181 := row_below belX180 belX180.size hOX180 hgX181
       have hBX181 : Boxed X181 bb 28 (.slice none 0 0) := box_grown hBX180 hOX180 hgX181
       have hCX181 := boxed_keep hCX180 hne7 hgX181
       obtain ⟨aX181, cX181, hvX181⟩ := oslice hOX181
       subst hvX181
       clear hgX181
       refine hKK.out _ _ ⟨(PP.out.pbox.next belX181).1, belX181⟩ (fun _ => ?_)
       clear hKK KK
       try dsimp only [getElem_toArray, getElem_cons_succ, getElem_cons_zero, Act.put]
       try simp only [setIfInBounds_toArray, set_cons_zero, set_cons_succ]
       refine wpAnyH_ready (rs := [8]) (by kernel_rfl) (by simp) (AllReadyH.cons rfl (fun KK hKK => ?_) AllReadyH.nil)
       refine step_append_vals rfl (.tmp 39) (.tmp 41) 26 rfl w2.heap.size 23 i0 (.slice none 0 0) 1 24 Try.underlying26 HI0.out hz0 hz1 hz2 rfl (by decide) (.slice aX181 (N - K) cX181) (N - K) us rfl hOX181 (some ⟨b7, 0, none⟩) 1 1 [(.slice (some ⟨W4.heap.size, 0, none⟩) 0 0)] rfl rfl (boxed_news hCX181) (fun u hu => by rw [List.mem_singleton.1 hu]; rfl) (by unfold maxLen; omega) (by omega) belX181.size ?_
       intro vX182 X182 hOX182 hgX182
       have belX182 : Below w2.heap.size w2 X182 := row_below belX181 belX181.size hOX181 hgX182
       have hBX182 : Boxed X182 bb 28 (.slice none 0 0) := box_grown hBX181 hOX181 hgX182
       obtain ⟨aX182, cX182, hvX182⟩ := oslice hOX182
       subst hvX182
       clear hgX182
       refine hKK.out _ _ ⟨(PP.out.pbox.next belX182).1, belX182⟩ (fun _ => ?_)
       clear hKK KK
       try dsimp only [getElem_toArray, getElem_cons_succ, getElem_cons_zero, Act.put]
       try simp only [setIfInBounds_toArray, set_cons_zero, set_cons_succ]
       refine wpAnyH_ready (rs := [13]) (by kernel_rfl) (by simp) (AllReadyH.cons rfl (fun KK hKK => ?_) AllReadyH.nil)
       refine step_append_vals rfl (.tmp 42) (.tmp 46) 26 rfl w2.heap.size 23 i0 (.slice none 0 0) 1 24 Try.underlying26 HI0.out hz0 hz1 hz2 rfl (by decide) (.slice aX182 (N - K + 1) cX182) (N - K + 1) (us ++ [(.slice (some ⟨W4.heap.size, 0, none⟩) 0 0)]) rfl hOX182 (some ⟨pb, po, none⟩) K cp vs rfl (by rw [hvs.out, Nat.mul_one]) (hvsn.out _ (BW2.out.trans (belX182.mono BW2.out.size))) hvs1 (by unfold maxLen; omega) (by omega) belX182.size ?_
       intro vX183 X183 hOX183 hgX183
       have belX183 : Below w2.heap.size w2 X183 := row_below belX182 belX182.size hOX182 hgX183
       have hBX183 : Boxed X183 bb 28 (.slice none 0 0) := box_grown hBX182 hOX182 hgX183
       obtain ⟨aX183, cX183, hvX183⟩ := oslice hOX183
       subst hvX183
       clear hgX183
       refine hKK.out _ _ ⟨(PP.out.pbox.next belX183).1, belX183⟩ (fun _ => ?_)
       clear hKK KK
       try dsimp only [getElem_toArray, getElem_cons_succ, getElem_cons_zero, Act.put]
       try simp only [setIfInBounds_toArray, set_cons_zero, set_cons_succ]
       refine wpAnyH_take (i := 14) (v := ?_) rfl (by kernel_rfl) (by kernel_rfl) (by kernel_rfl) (fun _ _ _ h => h) (Or.inl ⟨by kernel_rfl, ?_⟩) ⟨(PP.out.pbox.next belX183).1, belX183⟩ ?_
       rotate_left
       ·(intro w0 z; (try dsimp only at z); obtain ⟨c0, hLB⟩ := z; go_simp; try with_reducible rfl)
       try dsimp only [getElem_toArray, getElem_cons_succ, getElem_cons_zero, Act.put]
       try simp only [setIfInBounds_toArray, set_cons_zero, set_cons_succ]
       refine wpAnyH_ready (rs := [16]) (by kernel_rfl) (by simp) (AllReadyH.cons rfl (fun KK hKK => ?_) AllReadyH.nil)
       have hcb := hBX183.cell
       have hfb := hBX183.frozen
       go_simp
       obtain ⟨X184, hX184⟩ : ∃ X, X = X183.setCell ⟨bb, 0, none⟩ (.slice aX183 (N - K + 1 + K) cX183) := ⟨_, rfl⟩
       have belX184 : Below w2.heap.size w2 X184 := by rw [hX184]; exact belX183.setCell (p := ⟨bb, 0, none⟩) hbbw _
       have hfin := turned_end (hO := hOX183) (hB := hBX183) (read_turned (g := W4.heap.size) husr.out hvsr.out) (BW2.out.trans (belX184.mono BW2.out.size)) hX184 (by rw [turned_length, HN0.out]; omega)
       rw [← hX184]
       clear hX184
       refine hKK.out _ _ ⟨(PP.out.pbox.next belX184).1, belX184⟩ (fun _ => ?_)
       clear hKK KK
       refine wpAnyH_done (by kernel_rfl) ?_ _
       try dsimp only [getElem_toArray, getElem_cons_succ, getElem_cons_zero, Act.put]
       try simp only [setIfInBounds_toArray, set_cons_zero, set_cons_succ]
       have hp := PP.out.next belX184
       go_wp2_with (fail)
       go_meet
       exact ⟨bb, _, rfl, hp, hfin.1, hfin.2⟩
    ·go_simp
     obtain ⟨X185, hX185⟩ : ∃ X, X = W4.alloc (.cells #[.slice none 0 0] 28) := ⟨_, rfl⟩
     have belX185 : Below w2.heap.size w2 X185 := by rw [hX185]; exact belW4.alloc belW4.size _
     obtain ⟨bb, hbb⟩ : ∃ bb, bb = W4.heap.size := ⟨_, rfl⟩
     have hbbw : w2.heap.size ≤ bb := by rw [hbb]; exact belW4.size
     have hBX185 : Boxed X185 bb 28 (.slice none 0 0) := by rw [hX185, hbb]; exact Boxed.new _ _ _
     rw [← hbb]
     clear hbb
     rw [← hX185]
     clear hX185
     refine hKK.out _ _ ⟨(PP.out.pbox.next belX185).1, belX185⟩ (fun _ => ?_)
     clear hKK KK
     try dsimp only [getElem_toArray, getElem_cons_succ, getElem_cons_zero, Act.put]
     try simp only [setIfInBounds_toArray, set_cons_zero, set_cons_succ]
     refine wpAnyH_ready (rs := [0, 6]) (by kernel_rfl) (by simp) (AllReadyH.cons rfl (fun KK hKK => ?_) (AllReadyH.cons rfl (fun KK hKK => ?_) AllReadyH.nil))
     ·go_simp
      obtain ⟨X186, hX186⟩ : ∃ X, X = X185.alloc (.cells #[] 23) := ⟨_, rfl⟩
      have belX186 : Below w2.heap.size w2 X186 := by rw [hX186]; exact belX185.alloc belX185.size _
      have hBX186 : Boxed X186 bb 28 (.slice none 0 0) := by rw [hX186]; exact hBX185.alloc _
      have hOX186 : X186.ownsRow w2.heap.size 23 1 (.slice (some ⟨X185.heap.size, 0, none⟩) 0 0) 0 [] := by rw [hX186]; exact rowS (World.alloc_heap_new _ _) belX185.size
      rw [← hX186]
      clear hX186
      refine hKK.out _ _ ⟨(PP.out.pbox.next belX186).1, belX186⟩ (fun _ => ?_)
      clear hKK KK
      try dsimp only [getElem_toArray, getElem_cons_succ, getElem_cons_zero, Act.put]
      try simp only [setIfInBounds_toArray, set_cons_zero, set_cons_succ]
      refine wpAnyH_ready (rs := [5, 6]) (by kernel_rfl) (by simp) (AllReadyH.cons rfl (fun KK hKK => ?_) (AllReadyH.cons rfl (fun KK hKK => ?_) AllReadyH.nil))
      ·refine step_append_vals rfl (.tmp 34) (.tmp 38) 26 rfl w2.heap.size 23 i0 (.slice none 0 0) 1 24 Try.underlying26 HI0.out hz0 hz1 hz2 rfl (by decide) (.slice (some ⟨X185.heap.size, 0, none⟩) 0 0) 0 [] rfl hOX186 (some ⟨pb, po + K, none⟩) (N - K) (cp - K) us rfl (by rw [hus.out, Nat.mul_one]) (husn.out _ (BW2.out.trans (belX186.mono BW2.out.size))) hus1 (by unfold maxLen; omega) (by omega) belX186.size ?_
       intro vX187 X187 hOX187 hgX187
       rw [Nat.zero_add, List.nil_append] at hOX187
       have belX187 : Below w2.heap.size w2 X187 := row_below belX186 belX186.size hOX186 hgX187
       have hBX187 : Boxed X187 bb 28 (.slice none 0 0) := box_grown hBX186 hOX186 hgX187
       obtain ⟨aX187, cX187, hvX187⟩ := oslice hOX187
       subst hvX187
       clear hgX187
       refine hKK.out _ _ ⟨(PP.out.pbox.next belX187).1, belX187⟩ (fun _ => ?_)
       clear hKK KK
       try dsimp only [getElem_toArray, getElem_cons_succ, getElem_cons_zero, Act.put]
       try simp only [setIfInBounds_toArray, set_cons_zero, set_cons_succ]
       refine wpAnyH_ready (rs := [6]) (by kernel_rfl) (by simp) (AllReadyH.cons rfl (fun KK hKK => ?_) AllReadyH.nil)
       go_simp
       obtain ⟨X188, hX188⟩ : ∃ X, X = X187.alloc (.cells #[] 3) := ⟨_, rfl⟩
       have belX188 : Below w2.heap.size w2 X188 := by rw [hX188]; exact belX187.alloc belX187.size _
       have hOX188 := hOX187.alloc (.cells #[] 3)
       rw [← hX188] at hOX188
       have hBX188 : Boxed X188 bb 28 (.slice none 0 0) := by rw [hX188]; exact hBX187.alloc _
       rw [← hX188]
       clear hX188
       refine hKK.out _ _ ⟨(PP.out.pbox.next belX188).1, belX188⟩ (fun _ => ?_)
       clear hKK KK
       try dsimp only [getElem_toArray, getElem_cons_succ, getElem_cons_zero, Act.put]
       try simp only [setIfInBounds_toArray, set_cons_zero, set_cons_succ]
       refine wpAnyH_ready (rs := [7]) (by kernel_rfl) (by simp) (AllReadyH.cons rfl (fun KK hKK => ?_) AllReadyH.nil)
       go_simp
       obtain ⟨X189, hX189⟩ : ∃ X, X = X188.alloc (.cells #[(.slice (some ⟨X187.heap.size, 0, none⟩) 0 0)] 23) := ⟨_, rfl⟩
       have belX189 : Below w2.heap.size w2 X189 := by rw [hX189]; exact belX188.alloc belX188.size _
       have hOX189 := hOX188.alloc (.cells #[(.slice (some ⟨X187.heap.size, 0, none⟩) 0 0)] 23)
       rw [← hX189] at hOX189
       have hBX189 : Boxed X189 bb 28 (.slice none 0 0) := by rw [hX189]; exact hBX188.alloc _
       obtain ⟨b7, hb7⟩ : ∃ b7, b7 = X188.heap.size := ⟨_, rfl⟩
       have hCX189 : Boxed X189 b7 23 (.slice (some ⟨X187.heap.size, 0, none⟩) 0 0) := by rw [hX189, hb7]; exact Boxed.new _ _ _
       have hne7 : ((.slice aX187 (N - K) cX187) : Value).ownBlock ≠ some b7 := by rw [hb7]; exact own_fresh hOX188
       rw [← hb7]
       clear hb7
       rw [← hX189]
       clear hX189
       refine hKK.out _ _ ⟨(PP.out.pbox.next belX189).1, belX189⟩ (fun _ => ?_)
       clear hKK KK
       try dsimp only [getElem_toArray, getElem_cons_succ, getElem_cons_zero, Act.put]
       try simp only [setIfInBounds_toArray, set_cons_zero, set_cons_succ]
       refine wpAnyH_ready (rs := [8]) (by kernel_rfl) (by simp) (AllReadyH.cons rfl (fun KK hKK => ?_) AllReadyH.nil)
       refine step_append_vals rfl (.tmp 39) (.tmp 41) 26 rfl w2.heap.size 23 i0 (.slice none 0 0) 1 24 Try.underlying26 HI0.out hz0 hz1 hz2 rfl (by decide) (.slice aX187 (N - K) cX187) (N - K) us rfl hOX189 (some ⟨b7, 0, none⟩) 1 1 [(.slice (some ⟨X187.heap.size, 0, none⟩) 0 0)] rfl rfl (boxed_news hCX189) (fun u hu => by rw [List.mem_singleton.1 hu]; rfl) (by unfold maxLen; omega) (by omega) belX189.size ?_
       intro vX190 X190 hOX190 hgX190
       have belX190 : Below w2.heap.size w2 X190 := row_below belX189 belX189.size hOX189 hgX190
       have hBX190 : Boxed X190 bb 28 (.slice none 0 0) := box_grown hBX189 hOX189 hgX190
       obtain ⟨aX190, cX190, hvX190⟩ := oslice hOX190
       subst hvX190
       clear hgX190
       refine hKK.out _ _ ⟨(PP.out.pbox.next belX190).1, belX190⟩ (fun _ => ?_)
       clear hKK KK
       try dsimp only [getElem_toArray, getElem_cons_succ, getElem_cons_zero, Act.put]
       try simp only [setIfInBounds_toArray, set_cons_zero, set_cons_succ]
       refine wpAnyH_ready (rs := [13]) (by kernel_rfl) (by simp) (AllReadyH.cons rfl (fun KK hKK => ?_) AllReadyH.nil)
       refine step_append_vals rfl (.tmp 42) (.tmp 46) 26 rfl w2.heap.size 23 i0 (.slice none 0 0) 1 24 Try.underlying26 HI0.out hz0 hz1 hz2 rfl (by decide) (.slice aX190 (N - K + 1) cX190) (N - K + 1) (us ++ [(.slice (some ⟨X187.heap.size, 0, none⟩) 0 0)]) rfl hOX190 (some ⟨pb, po, none⟩) K cp vs rfl (by rw [hvs.out, Nat.mul_one]) (hvsn.out _ (BW2.out.trans (belX190.mono BW2.out.size))) hvs1 (by unfold maxLen; omega) (by omega) belX190.size ?_
       intro vX191 X191 hOX191 hgX191
       have belX191 : Below w2.heap.size w2 X191 := row_below belX190 belX190.size hOX190 hgX191
       have hBX191 : Boxed X191 bb 28 (.slice none 0 0) := box_grown hBX190 hOX190 hgX191
       obtain ⟨aX191, cX191, hvX191⟩ := oslice hOX191
       subst hvX191
       clear hgX191
       refine hKK.out _ _ ⟨(PP.out.pbox.next belX191).1, belX191⟩ (fun _ => ?_)
       clear hKK KK
       try dsimp only [getElem_toArray, getElem_cons_succ, getElem_cons_zero, Act.put]
       try simp only [setIfInBounds_toArray, set_cons_zero, set_cons_succ]
       refine wpAnyH_take (i := 14) (v := ?_) rfl (by kernel_rfl) (by kernel_rfl) (by kernel_rfl) (fun _ _ _ h => h) (Or.inl ⟨by kernel_rfl, ?_⟩) ⟨(PP.out.pbox.next belX191).1, belX191⟩ ?_
       rotate_left
       ·(intro w0 z; (try dsimp only at z); obtain ⟨c0, hLB⟩ := z; go_simp; try with_reducible rfl)
       try dsimp only [getElem_toArray, getElem_cons_succ, getElem_cons_zero, Act.put]
       try simp only [setIfInBounds_toArray, set_cons_zero, set_cons_succ]
       refine wpAnyH_ready (rs := [16]) (by kernel_rfl) (by simp) (AllReadyH.cons rfl (fun KK hKK => ?_) AllReadyH.nil)
       have hcb := hBX191.cell
       have hfb := hBX191.frozen
       go_simp
       obtain ⟨X192, hX192⟩ : ∃ X, X = X191.setCell ⟨bb, 0, none⟩ (.slice aX191 (N - K + 1 + K) cX191) := ⟨_, rfl⟩
       have belX192 : Below w2.heap.size w2 X192 := by rw [hX192]; exact belX191.setCell (p := ⟨bb, 0, none⟩) hbbw _
       have hfin := turned_end (hO := hOX191) (hB := hBX191) (read_turned (g := X187.heap.size) husr.out hvsr.out) (BW2.out.trans (belX192.mono BW2.out.size)) hX192 (by rw [turned_length, HN0.out]; omega)
       rw [← hX192]
       clear hX192
       refine hKK.out _ _ ⟨(PP.out.pbox.next belX192).1, belX192⟩ (fun _ => ?_)
       clear hKK KK
       refine wpAnyH_done (by kernel_rfl) ?_ _
       try dsimp only [getElem_toArray, getElem_cons_succ, getElem_cons_zero, Act.put]
       try simp only [setIfInBounds_toArray, set_cons_zero, set_cons_succ]
       have hp := PP.out.next belX192
       go_wp2_with (fail)
       go_meet
       exact ⟨bb, _, rfl, hp, hfin.1, hfin.2⟩
      ·go_simp
       obtain ⟨X193, hX193⟩ : ∃ X, X = X186.alloc (.cells #[] 3) := ⟨_, rfl⟩
       have belX193 : Below w2.heap.size w2 X193 := by rw [hX193]; exact belX186.alloc belX186.size _
       have hOX193 := hOX186.alloc (.cells #[] 3)
       rw [← hX193] at hOX193
       have hBX193 : Boxed X193 bb 28 (.slice none 0 0) := by rw [hX193]; exact hBX186.alloc _
       rw [← hX193]
       clear hX193
       refine hKK.out _ _ ⟨(PP.out.pbox.next belX193).1, belX193⟩ (fun _ => ?_)
       clear hKK KK
       try dsimp only [getElem_toArray, getElem_cons_succ, getElem_cons_zero, Act.put]
       try simp only [setIfInBounds_toArray, set_cons_zero, set_cons_succ]
       refine wpAnyH_ready (rs := [5, 7]) (by kernel_rfl) (by simp) (AllReadyH.cons rfl (fun KK hKK => ?_) (AllReadyH.cons rfl (fun KK hKK => ?_) AllReadyH.nil))
       ·refine step_append_vals rfl (.tmp 34) (.tmp 38) 26 rfl w2.heap.size 23 i0 (.slice none 0 0) 1 24 Try.underlying26 HI0.out hz0 hz1 hz2 rfl (by decide) (.slice (some ⟨X185.heap.size, 0, none⟩) 0 0) 0 [] rfl hOX193 (some ⟨pb, po + K, none⟩) (N - K) (cp - K) us rfl (by rw [hus.out, Nat.mul_one]) (husn.out _ (BW2.out.trans (belX193.mono BW2.out.size))) hus1 (by unfold maxLen; omega) (by omega) belX193.size ?_
        intro vX194 X194 hOX194 hgX194
        rw [Nat.zero_add, List.nil_append] at hOX194
        have belX194 : Below w2.heap.size w2 X194 := row_below belX193 belX193.size hOX193 hgX194
        have hBX194 : Boxed X194 bb 28 (.slice none 0 0) := box_grown hBX193 hOX193 hgX194
        obtain ⟨aX194, cX194, hvX194⟩ := oslice hOX194
        subst hvX194
        clear hgX194
        refine hKK.out _ _ ⟨(PP.out.pbox.next belX194).1, belX194⟩ (fun _ => ?_)
        clear hKK KK
        try dsimp only [getElem_toArray, getElem_cons_succ, getElem_cons_zero, Act.put]
        try simp only [setIfInBounds_toArray, set_cons_zero, set_cons_succ]
        refine wpAnyH_ready (rs := [7]) (by kernel_rfl) (by simp) (AllReadyH.cons rfl (fun KK hKK => ?_) AllReadyH.nil)
        go_simp
        obtain ⟨X195, hX195⟩ : ∃ X, X = X194.alloc (.cells #[(.slice (some ⟨X186.heap.size, 0, none⟩) 0 0)] 23) := ⟨_, rfl⟩
        have belX195 : Below w2.heap.size w2 X195 := by rw [hX195]; exact belX194.alloc belX194.size _
        have hOX195 := hOX194.alloc (.cells #[(.slice (some ⟨X186.heap.size, 0, none⟩) 0 0)] 23)
        rw [← hX195] at hOX195
        have hBX195 : Boxed X195 bb 28 (.slice none 0 0) := by rw [hX195]; exact hBX194.alloc _
        obtain ⟨b7, hb7⟩ : ∃ b7, b7 = X194.heap.size := ⟨_, rfl⟩
        have hCX195 : Boxed X195 b7 23 (.slice (some ⟨X186.heap.size, 0, none⟩) 0 0) := by rw [hX195, hb7]; exact Boxed.new _ _ _
        have hne7 : ((.slice aX194 (N - K) cX194) : Value).ownBlock ≠ some b7 := by rw [hb7]; exact own_fresh hOX194
        rw [← hb7]
        clear hb7
        rw [← hX195]
        clear hX195
        refine hKK.out _ _ ⟨(PP.out.pbox.next belX195).1, belX195⟩ (fun _ => ?_)
        clear hKK KK
        try dsimp only [getElem_toArray, getElem_cons_succ, getElem_cons_zero, Act.put]
        try simp only [setIfInBounds_toArray, set_cons_zero, set_cons_succ]
        refine wpAnyH_ready (rs := [8]) (by kernel_rfl) (by simp) (AllReadyH.cons rfl (fun KK hKK => ?_) AllReadyH.nil)
        refine step_append_vals rfl (.tmp 39) (.tmp 41) 26 rfl w2.heap.size 23 i0 (.slice none 0 0) 1 24 Try.underlying26 HI0.out hz0 hz1 hz2 rfl (by decide) (.slice aX194 (N - K) cX194) (N - K) us rfl hOX195 (some ⟨b7, 0, none⟩) 1 1 [(.slice (some ⟨X186.heap.size, 0, none⟩) 0 0)] rfl rfl (boxed_news hCX195) (fun u hu => by rw [List.mem_singleton.1 hu]; rfl) (by unfold maxLen; omega) (by omega) belX195.size ?_
        intro vX196 X196 hOX196 hgX196
        have belX196 : Below w2.heap.size w2 X196 := row_below belX195 belX195.size hOX195 hgX196
        have hBX196 : Boxed X196 bb 28 (.slice none 0 0) := box_grown hBX195 hOX195 hgX196
        obtain ⟨aX196, cX196, hvX196⟩ := oslice hOX196
        subst hvX196
        clear hgX196
        refine hKK.out _ _ ⟨(PP.out.pbox.next belX196).1, belX196⟩ (fun _ => ?_)
        clear hKK KK
        try dsimp only [getElem_toArray, getElem_cons_succ, getElem_cons_zero, Act.put]
        try simp only [setIfInBounds_toArray, set_cons_zero, set_cons_succ]
        refine wpAnyH_ready (rs := [13]) (by kernel_rfl) (by simp) (AllReadyH.cons rfl (fun KK hKK => ?_) AllReadyH.nil)
        refine step_append_vals rfl (.tmp 42) (.tmp 46) 26 rfl w2.heap.size 23 i0 (.slice none 0 0) 1 24 Try.underlying26 HI0.out hz0 hz1 hz2 rfl (by decide) (.slice aX196 (N - K + 1) cX196) (N - K + 1) (us ++ [(.slice (some ⟨X186.heap.size, 0, none⟩) 0 0)]) rfl hOX196 (some ⟨pb, po, none⟩) K cp vs rfl (by rw [hvs.out, Nat.mul_one]) (hvsn.out _ (BW2.out.trans (belX196.mono BW2.out.size))) hvs1 (by unfold maxLen; omega) (by omega) belX196.size ?_
        intro vX197 X197 hOX197 hgX197
        have belX197 : Below w2.heap.size w2 X197 := row_below belX196 belX196.size hOX196 hgX197
        have hBX197 : Boxed X197 bb 28 (.slice none 0 0) := box_grown hBX196 hOX196 hgX197
        obtain ⟨aX197, cX197, hvX197⟩ := oslice hOX197
        subst hvX197
        clear hgX197
        refine hKK.out _ _ ⟨(PP.out.pbox.next belX197).1, belX197⟩ (fun _ => ?_)
        clear hKK KK
        try dsimp only [getElem_toArray, getElem_cons_succ, getElem_cons_zero, Act.put]
        try simp only [setIfInBounds_toArray, set_cons_zero, set_cons_succ]
        refine wpAnyH_take (i := 14) (v := ?_) rfl (by kernel_rfl) (by kernel_rfl) (by kernel_rfl) (fun _ _ _ h => h) (Or.inl ⟨by kernel_rfl, ?_⟩) ⟨(PP.out.pbox.next belX197).1, belX197⟩ ?_
        rotate_left
        ·(intro w0 z; (try dsimp only at z); obtain ⟨c0, hLB⟩ := z; go_simp; try with_reducible rfl)
        try dsimp only [getElem_toArray, getElem_cons_succ, getElem_cons_zero, Act.put]
        try simp only [setIfInBounds_toArray, set_cons_zero, set_cons_succ]
        refine wpAnyH_ready (rs := [16]) (by kernel_rfl) (by simp) (AllReadyH.cons rfl (fun KK hKK => ?_) AllReadyH.nil)
        have hcb := hBX197.cell
        have hfb := hBX197.frozen
        go_simp
        obtain ⟨X198, hX198⟩ : ∃ X, X = X197.setCell ⟨bb, 0, none⟩ (.slice aX197 (N - K + 1 + K) cX197) := ⟨_, rfl⟩
        have belX198 : Below w2.heap.size w2 X198 := by rw [hX198]; exact belX197.setCell (p := ⟨bb, 0, none⟩) hbbw _
        have hfin := turned_end (hO := hOX197) (hB := hBX197) (read_turned (g := X186.heap.size) husr.out hvsr.out) (BW2.out.trans (belX198.mono BW2.out.size)) hX198 (by rw [turned_length, HN0.out]; omega)
        rw [← hX198]
        clear hX198
        refine hKK.out _ _ ⟨(PP.out.pbox.next belX198).1, belX198⟩ (fun _ => ?_)
        clear hKK KK
        refine wpAnyH_done (by kernel_rfl) ?_ _
        try dsimp only [getElem_toArray, getElem_cons_succ, getElem_cons_zero, Act.put]
        try simp only [setIfInBounds_toArray, set_cons_zero, set_cons_succ]
        have hp := PP.out.next belX198
        go_wp2_with (fail)
        go_meet
        exact ⟨bb, _, rfl, hp, hfin.1, hfin.2⟩
       ·go_simp
        obtain ⟨X199, hX199⟩ : ∃ X, X = X193.alloc (.cells #[(.slice (some ⟨X186.heap.size, 0, none⟩) 0 0)] 23) := ⟨_, rfl⟩
        have belX199 : Below w2.heap.size w2 X199 := by rw [hX199]; exact belX193.alloc belX193.size _
        have hOX199 := hOX193.alloc (.cells #[(.slice (some ⟨X186.heap.size, 0, none⟩) 0 0)] 23)
        rw [← hX199] at hOX199
        have hBX199 : Boxed X199 bb 28 (.slice none 0 0) := by rw [hX199]; exact hBX193.alloc _
        obtain ⟨b7, hb7⟩ : ∃ b7, b7 = X193.heap.size := ⟨_, rfl⟩
        have hCX199 : Boxed X199 b7 23 (.slice (some ⟨X186.heap.size, 0, none⟩) 0 0) := by rw [hX199, hb7]; exact Boxed.new _ _ _
        have hne7 : ((.slice (some ⟨X185.heap.size, 0, none⟩) 0 0) : Value).ownBlock ≠ some b7 := by rw [hb7]; exact own_fresh hOX193
        rw [← hb7]
        clear hb7
        rw [← hX199]
        clear hX199
        refine hKK.out _ _ ⟨(PP.out.pbox.next belX199).1, belX199⟩ (fun _ => ?_)
        clear hKK KK
        try dsimp only [getElem_toArray, getElem_cons_succ, getElem_cons_zero, Act.put]
        try simp only [setIfInBounds_toArray, set_cons_zero, set_cons_succ]
        refine wpAnyH_ready (rs := [5]) (by kernel_rfl) (by simp) (AllReadyH.cons rfl (fun KK hKK => ?_) AllReadyH.nil)
        refine step_append_vals rfl (.tmp 34) (.tmp 38) 26 rfl w2.heap.size 23 i0 (.slice none 0 0) 1 24 Try.underlying26 HI0.out hz0 hz1 hz2 rfl (by decide) (.slice (some ⟨X185.heap.size, 0, none⟩) 0 0) 0 [] rfl hOX199 (some ⟨pb, po + K, none⟩) (N - K) (cp - K) us rfl (by rw [hus.out, Nat.mul_one]) (husn.out _ (BW2.out.trans (belX199.mono BW2.out.size))) hus1 (by unfold maxLen; omega) (by omega) belX199.size ?_
        intro vX200 X200 hOX200 hgX200
        rw [Nat.zero_add, List.nil_append] at hOX200
        have belX200 : Below w2.heap.size w2 X200 := row_below belX199 belX199.size hOX199 hgX200
        have hBX200 : Boxed X200 bb 28 (.slice none 0 0) := box_grown hBX199 hOX199 hgX200
        have hCX200 := boxed_keep hCX199 hne7 hgX200
        obtain ⟨aX200, cX200, hvX200⟩ := oslice hOX200
        subst hvX200
        clear hgX200
        refine hKK.out _ _ ⟨(PP.out.pbox.next belX200).1, belX200⟩ (fun _ => ?_)
        clear hKK KK
        try dsimp only [getElem_toArray, getElem_cons_succ, getElem_cons_zero, Act.put]
        try simp only [setIfInBounds_toArray, set_cons_zero, set_cons_succ]
        refine wpAnyH_ready (rs := [8]) (by kernel_rfl) (by simp) (AllReadyH.cons rfl (fun KK hKK => ?_) AllReadyH.nil)
        refine step_append_vals rfl (.tmp 39) (.tmp 41) 26 rfl w2.heap.size 23 i0 (.slice none 0 0) 1 24 Try.underlying26 HI0.out hz0 hz1 hz2 rfl (by decide) (.slice aX200 (N - K) cX200) (N - K) us rfl hOX200 (some ⟨b7, 0, none⟩) 1 1 [(.slice (some ⟨X186.heap.size, 0, none⟩) 0 0)] rfl rfl (boxed_news hCX200) (fun u hu => by rw [List.mem_singleton.1 hu]; rfl) (by unfold maxLen; omega) (by omega) belX200.size ?_
        intro vX201 X201 hOX201 hgX201
        have belX201 : Below w2.heap.size w2 X201 := row_below belX200 belX200.size hOX200 hgX201
        have hBX201 : Boxed X201 bb 28 (.slice none 0 0) := box_grown hBX200 hOX200 hgX201
        obtain ⟨aX201, cX201, hvX201⟩ := oslice hOX201
        subst hvX201
        clear hgX201
        refine hKK.out _ _ ⟨(PP.out.pbox.next belX201).1, belX201⟩ (fun _ => ?_)
        clear hKK KK
        try dsimp only [getElem_toArray, getElem_cons_succ, getElem_cons_zero, Act.put]
        try simp only [setIfInBounds_toArray, set_cons_zero, set_cons_succ]
        refine wpAnyH_ready (rs := [13]) (by kernel_rfl) (by simp) (AllReadyH.cons rfl (fun KK hKK => ?_) AllReadyH.nil)
        refine step_append_vals rfl (.tmp 42) (.tmp 46) 26 rfl w2.heap.size 23 i0 (.slice none 0 0) 1 24 Try.underlying26 HI0.out hz0 hz1 hz2 rfl (by decide) (.slice aX201 (N - K + 1) cX201) (N - K + 1) (us ++ [(.slice (some ⟨X186.heap.size, 0, none⟩) 0 0)]) rfl hOX201 (some ⟨pb, po, none⟩) K cp vs rfl (by rw [hvs.out, Nat.mul_one]) (hvsn.out _ (BW2.out.trans (belX201.mono BW2.out.size))) hvs1 (by unfold maxLen; omega) (by omega) belX201.size ?_
        intro vX202 X202 hOX202 hgX202
        have belX202 : Below w2.heap.size w2 X202 := row_below belX201 belX201.size hOX201 hgX202
        have hBX202 : Boxed X202 bb 28 (.slice none 0 0) := box_grown hBX201 hOX201 hgX202
        obtain ⟨aX202, cX202, hvX202⟩ := oslice hOX202
        subst hvX202
        clear hgX202
        refine hKK.out _ _ ⟨(PP.out.pbox.next belX202).1, belX202⟩ (fun _ => ?_)
        clear hKK KK
        try dsimp only [getElem_toArray, getElem_cons_succ, getElem_cons_zero, Act.put]
        try simp only [setIfInBounds_toArray, set_cons_zero, set_cons_succ]
        refine wpAnyH_take (i := 14) (v := ?_) rfl (by kernel_rfl) (by kernel_rfl) (by kernel_rfl) (fun _ _ _ h => h) (Or.inl ⟨by kernel_rfl, ?_⟩) ⟨(PP.out.pbox.next belX202).1, belX202⟩ ?_
        rotate_left
        ·(intro w0 z; (try dsimp only at z); obtain ⟨c0, hLB⟩ := z; go_simp; try with_reducible rfl)
        try dsimp only [getElem_toArray, getElem_cons_succ, getElem_cons_zero, Act.put]
        try simp only [setIfInBounds_toArray, set_cons_zero, set_cons_succ]
        refine wpAnyH_ready (rs := [16]) (by kernel_rfl) (by simp) (AllReadyH.cons rfl (fun KK hKK => ?_) AllReadyH.nil)
        have hcb := hBX202.cell
        have hfb := hBX202.frozen
        go_simp
        obtain ⟨X203, hX203⟩ : ∃ X, X = X202.setCell ⟨bb, 0, none⟩ (.slice aX202 (N - K + 1 + K) cX202) := ⟨_, rfl⟩
        have belX203 : Below w2.heap.size w2 X203 := by rw [hX203]; exact belX202.setCell (p := ⟨bb, 0, none⟩) hbbw _
        have hfin := turned_end (hO := hOX202) (hB := hBX202) (read_turned (g := X186.heap.size) husr.out hvsr.out) (BW2.out.trans (belX203.mono BW2.out.size)) hX203 (by rw [turned_length, HN0.out]; omega)
        rw [← hX203]
        clear hX203
        refine hKK.out _ _ ⟨(PP.out.pbox.next belX203).1, belX203⟩ (fun _ => ?_)
        clear hKK KK
        refine wpAnyH_done (by kernel_rfl) ?_ _
        try dsimp only [getElem_toArray, getElem_cons_succ, getElem_cons_zero, Act.put]
        try simp only [setIfInBounds_toArray, set_cons_zero, set_cons_succ]
        have hp := PP.out.next belX203
        go_wp2_with (fail)
        go_meet
        exact ⟨bb, _, rfl, hp, hfin.1, hfin.2⟩
     ·go_simp
      obtain ⟨X204, hX204⟩ : ∃ X, X = X185.alloc (.cells #[] 3) := ⟨_, rfl⟩
      have belX204 : Below w2.heap.size w2 X204 := by rw [hX204]; exact belX185.alloc belX185.size _
      have hBX204 : Boxed X204 bb 28 (.slice none 0 0) := by rw [hX204]; exact hBX185.alloc _
      rw [← hX204]
      clear hX204
      refine hKK.out _ _ ⟨(PP.out.pbox.next belX204).1, belX204⟩ (fun _ => ?_)
      clear hKK KK
      try dsimp only [getElem_toArray, getElem_cons_succ, getElem_cons_zero, Act.put]
      try simp only [setIfInBounds_toArray, set_cons_zero, set_cons_succ]
      refine wpAnyH_ready (rs := [0, 7]) (by kernel_rfl) (by simp) (AllReadyH.cons rfl (fun KK hKK => ?_) (AllReadyH.cons rfl (fun KK hKK => ?_) AllReadyH.nil))
      ·go_simp
       obtain ⟨X205, hX205⟩ : ∃ X, X = X204.alloc (.cells #[] 23) := ⟨_, rfl⟩
       have belX205 : Below w2.heap.size w2 X205 := by rw [hX205]; exact belX204.alloc belX204.size _
       have hBX205 : Boxed X205 bb 28 (.slice none 0 0) := by rw [hX205]; exact hBX204.alloc _
       have hOX205 : X205.ownsRow w2.heap.size 23 1 (.slice (some ⟨X204.heap.size, 0, none⟩) 0 0) 0 [] := by rw [hX205]; exact rowS (World.alloc_heap_new _ _) belX204.size
       rw [← hX205]
       clear hX205
       refine hKK.out _ _ ⟨(PP.out.pbox.next belX205).1, belX205⟩ (fun _ => ?_)
       clear hKK KK
       try dsimp only [getElem_toArray, getElem_cons_succ, getElem_cons_zero, Act.put]
       try simp only [setIfInBounds_toArray, set_cons_zero, set_cons_succ]
       refine wpAnyH_ready (rs := [5, 7]) (by kernel_rfl) (by simp) (AllReadyH.cons rfl (fun KK hKK => ?_) (AllReadyH.cons rfl (fun KK hKK => ?_) AllReadyH.nil))
       ·refine step_append_vals rfl (.tmp 34) (.tmp 38) 26 rfl w2.heap.size 23 i0 (.slice none 0 0) 1 24 Try.underlying26 HI0.out hz0 hz1 hz2 rfl (by decide) (.slice (some ⟨X204.heap.size, 0, none⟩) 0 0) 0 [] rfl hOX205 (some ⟨pb, po + K, none⟩) (N - K) (cp - K) us rfl (by rw [hus.out, Nat.mul_one]) (husn.out _ (BW2.out.trans (belX205.mono BW2.out.size))) hus1 (by unfold maxLen; omega) (by omega) belX205.size ?_
        intro vX206 X206 hOX206 hgX206
        rw [Nat.zero_add, List.nil_append] at hOX206
        have belX206 : Below w2.heap.size w2 X206 := row_below belX205 belX205.size hOX205 hgX206
        have hBX206 : Boxed X206 bb 28 (.slice none 0 0) := box_grown hBX205 hOX205 hgX206
        obtain ⟨aX206, cX206, hvX206⟩ := oslice hOX206
        subst hvX206
        clear hgX206
        refine hKK.out _ _ ⟨(PP.out.pbox.next belX206).1, belX206⟩ (fun _ => ?_)
        clear hKK KK
        try dsimp only [getElem_toArray, getElem_cons_succ, getElem_cons_zero, Act.put]
        try simp only [setIfInBounds_toArray, set_cons_zero, set_cons_succ]
        refine wpAnyH_ready (rs := [7]) (by kernel_rfl) (by simp) (AllReadyH.cons rfl (fun KK hKK => ?_) AllReadyH.nil)
        go_simp
        obtain ⟨X207, hX207⟩ : ∃ X, X = X206.alloc (.cells #[(.slice (some ⟨X185.heap.size, 0, none⟩) 0 0)] 23) := ⟨_, rfl⟩
        have belX207 : Below w2.heap.size w2 X207 := by rw [hX207]; exact belX206.alloc belX206.size _
        have hOX207 := hOX206.alloc (.cells #[(.slice (some ⟨X185.heap.size, 0, none⟩) 0 0)] 23)
        rw [← hX207] at hOX207
        have hBX207 : Boxed X207 bb 28 (.slice none 0 0) := by rw [hX207]; exact hBX206.alloc _
        obtain ⟨b7, hb7⟩ : ∃ b7, b7 = X206.heap.size := ⟨_, rfl⟩
        have hCX207 : Boxed X207 b7 23 (.slice (some ⟨X185.heap.size, 0, none⟩) 0 0) := by rw [hX207, hb7]; exact Boxed.new _ _ _
        have hne7 : ((.slice aX206 (N - K) cX206) : Value).ownBlock ≠ some b7 := by rw [hb7]; exact own_fresh hOX206
        rw [← hb7]
        clear hb7
        rw [← hX207]
        clear hX207
        refine hKK.out _ _ ⟨(PP.out.pbox.next belX207).1, belX207⟩ (fun _ => ?_)
        clear hKK KK
        try dsimp only [getElem_toArray, getElem_cons_succ, getElem_cons_zero, Act.put]
        try simp only [setIfInBounds_toArray, set_cons_zero, set_cons_succ]
        refine wpAnyH_ready (rs := [8]) (by kernel_rfl) (by simp) (AllReadyH.cons rfl (fun KK hKK => ?_) AllReadyH.nil)
        refine step_append_vals rfl (.tmp 39) (.tmp 41) 26 rfl w2.heap.size 23 i0 (.slice none 0 0) 1 24 Try.underlying26 HI0.out hz0 hz1 hz2 rfl (by decide) (.slice aX206 (N - K) cX206) (N - K) us rfl hOX207 (some ⟨b7, 0, none⟩) 1 1 [(.slice (some ⟨X185.heap.size, 0, none⟩) 0 0)] rfl rfl (boxed_news hCX207) (fun u hu => by rw [List.mem_singleton.1 hu]; rfl) (by unfold maxLen; omega) (by omega) belX207.size ?_
        intro vX208 X208 hOX208 hgX208
        have belX208 : Below w2.heap.size w2 X208 := row_below belX207 belX207.size hOX207 hgX208
        have hBX208 : Boxed X208 bb 28 (.slice none 0 0) := box_grown hBX207 hOX207 hgX208
        obtain ⟨aX208, cX208, hvX208⟩ := oslice hOX208
        subst hvX208
        clear hgX208
        refine hKK.out _ _ ⟨(PP.out.pbox.next belX208).1, belX208⟩ (fun _ => ?_)
        clear hKK KK
        try dsimp only [getElem_toArray, getElem_cons_succ, getElem_cons_zero, Act.put]
        try simp only [setIfInBounds_toArray, set_cons_zero, set_cons_succ]
        refine wpAnyH_ready (rs := [13]) (by kernel_rfl) (by simp) (AllReadyH.cons rfl (fun KK hKK => ?_) AllReadyH.nil)
        refine step_append_vals rfl (.tmp 42) (.tmp 46) 26 rfl w2.heap.size 23 i0 (.slice none 0 0) 1 24 Try.underlying26 HI0.out hz0 hz1 hz2 rfl (by decide) (.slice aX208 (N - K + 1) cX208) (N - K + 1) (us ++ [(.slice (some ⟨X185.heap.size, 0, none⟩) 0 0)]) rfl hOX208 (some ⟨pb, po, none⟩) K cp vs rfl (by rw [hvs.out, Nat.mul_one]) (hvsn.out _ (BW2.out.trans (belX208.mono BW2.out.size))) hvs1 (by unfold maxLen; omega) (by omega) belX208.size ?_
        intro vX209 X209 hOX209 hgX209
        have belX209 : Below w2.heap.size w2 X209 := row_below belX208 belX208.size hOX208 hgX209
        have hBX209 : Boxed X209 bb 28 (.slice none 0 0) := box_grown hBX208 hOX208 hgX209
        obtain ⟨aX209, cX209, hvX209⟩ := oslice hOX209
        subst hvX209
        clear hgX209
        refine hKK.out _ _ ⟨(PP.out.pbox.next belX209).1, belX209⟩ (fun _ => ?_)
        clear hKK KK
        try dsimp only [getElem_toArray, getElem_cons_succ, getElem_cons_zero, Act.put]
        try simp only [setIfInBounds_toArray, set_cons_zero, set_cons_succ]
        refine wpAnyH_take (i := 14) (v := ?_) rfl (by kernel_rfl) (by kernel_rfl) (by kernel_rfl) (fun _ _ _ h => h) (Or.inl ⟨by kernel_rfl, ?_⟩) ⟨(PP.out.pbox.next belX209).1, belX209⟩ ?_
        rotate_left
        ·(intro w0 z; (try dsimp only at z); obtain ⟨c0, hLB⟩ := z; go_simp; try with_reducible rfl)
        try dsimp only [getElem_toArray, getElem_cons_succ, getElem_cons_zero, Act.put]
        try simp only [setIfInBounds_toArray, set_cons_zero, set_cons_succ]
        refine wpAnyH_ready (rs := [16]) (by kernel_rfl) (by simp) (AllReadyH.cons rfl (fun KK hKK => ?_) AllReadyH.nil)
        have hcb := hBX209.cell
        have hfb := hBX209.frozen
        go_simp
        obtain ⟨X210, hX210⟩ : ∃ X, X = X209.setCell ⟨bb, 0, none⟩ (.slice aX209 (N - K + 1 + K) cX209) := ⟨_, rfl⟩
        have belX210 : Below w2.heap.size w2 X210 := by rw [hX210]; exact belX209.setCell (p := ⟨bb, 0, none⟩) hbbw _
        have hfin := turned_end (hO := hOX209) (hB := hBX209) (read_turned (g := X185.heap.size) husr.out hvsr.out) (BW2.out.trans (belX210.mono BW2.out.size)) hX210 (by rw [turned_length, HN0.out]; omega)
        rw [← hX210]
        clear hX210
        refine hKK.out _ _ ⟨(PP.out.pbox.next belX210).1, belX210⟩ (fun _ => ?_)
        clear hKK KK
        refine wpAnyH_done (by kernel_rfl) ?_ _
        try dsimp only [getElem_toArray, getElem_cons_succ, getElem_cons_zero, Act.put]
        try simp only [setIfInBounds_toArray, set_cons_zero, set_cons_succ]
        have hp := PP.out.next belX210
        go_wp2_with (fail)
        go_meet
        exact ⟨bb, _, rfl, hp, hfin.1, hfin.2⟩
       ·go_simp
        obtain ⟨X211, hX211⟩ : ∃ X, X = X205.alloc (.cells #[(.slice (some ⟨X185.heap.size, 0, none⟩) 0 0)] 23) := ⟨_, rfl⟩
        have belX211 : Below w2.heap.size w2 X211 := by rw [hX211]; exact belX205.alloc belX205.size _
        have hOX211 := hOX205.alloc (.cells #[(.slice (some ⟨X185.heap.size, 0, none⟩) 0 0)] 23)
        rw [← hX211] at hOX211
        have hBX211 : Boxed X211 bb 28 (.slice none 0 0) := by rw [hX211]; exact hBX205.alloc _
        obtain ⟨b7, hb7⟩ : ∃ b7, b7 = X205.heap.size := ⟨_, rfl⟩
        have hCX211 : Boxed X211 b7 23 (.slice (some ⟨X185.heap.size, 0, none⟩) 0 0) := by rw [hX211, hb7]; exact Boxed.new _ _ _
        have hne7 : ((.slice (some ⟨X204.heap.size, 0, none⟩) 0 0) : Value).ownBlock ≠ some b7 := by rw [hb7]; exact own_fresh hOX205
        rw [← hb7]
        clear hb7
        rw [← hX211]
        clear hX211
        refine hKK.out _ _ ⟨(PP.out.pbox.next belX211).1, belX211⟩ (fun _ => ?_)
        clear hKK KK
        try dsimp only [getElem_toArray, getElem_cons_succ, getElem_cons_zero, Act.put]
        try simp only [setIfInBounds_toArray, set_cons_zero, set_cons_succ]
        refine wpAnyH_ready (rs := [5]) (by kernel_rfl) (by simp) (AllReadyH.cons rfl (fun KK hKK => ?_) AllReadyH.nil)
        refine step_append_vals rfl (.tmp 34) (.tmp 38) 26 rfl w2.heap.size 23 i0 (.slice none 0 0) 1 24 Try.underlying26 HI0.out hz0 hz1 hz2 rfl (by decide) (.slice (some ⟨X204.heap.size, 0, none⟩) 0 0) 0 [] rfl hOX211 (some ⟨pb, po + K, none⟩) (N - K) (cp - K) us rfl (by rw [hus.out, Nat.mul_one]) (husn.out _ (BW2.out.trans (belX211.mono BW2.out.size))) hus1 (by unfold maxLen; omega) (by omega) belX211.size ?_
        intro vX212 X212 hOX212 hgX212
        rw [Nat.zero_add, List.nil_append] at hOX212
        have belX212 : Below w2.heap.size w2 X212 := row_below belX211 belX211.size hOX211 hgX212
        have hBX212 : Boxed X212 bb 28 (.slice none 0 0) := box_grown hBX211 hOX211 hgX212
        have hCX212 := boxed_keep hCX211 hne7 hgX212
        obtain ⟨aX212, cX212, hvX212⟩ := oslice hOX212
        subst hvX212
        clear hgX212
        refine hKK.out _ _ ⟨(PP.out.pbox.next belX212).1, belX212⟩ (fun _ => ?_)
        clear hKK KK
        try dsimp only [getElem_toArray, getElem_cons_succ, getElem_cons_zero, Act.put]
        try simp only [setIfInBounds_toArray, set_cons_zero, set_cons_succ]
        refine wpAnyH_ready (rs := [8]) (by kernel_rfl) (by simp) (AllReadyH.cons rfl (fun KK hKK => ?_) AllReadyH.nil)
        refine step_append_vals rfl (.tmp 39) (.tmp 41) 26 rfl w2.heap.size 23 i0 (.slice none 0 0) 1 24 Try.underlying26 HI0.out hz0 hz1 hz2 rfl (by decide) (.slice aX212 (N - K) cX212) (N - K) us rfl hOX212 (some ⟨b7, 0, none⟩) 1 1 [(.slice (some ⟨X185.heap.size, 0, none⟩) 0 0)] rfl rfl (boxed_news hCX212) (fun u hu => by rw [List.mem_singleton.1 hu]; rfl) (by unfold maxLen; omega) (by omega) belX212.size ?_
        intro vX213 X213 hOX213 hgX213
        have belX213 : Below w2.heap.size w2 X213 := row_below belX212 belX212.size hOX212 hgX213
        have hBX213 : Boxed X213 bb 28 (.slice none 0 0) := box_grown hBX212 hOX212 hgX213
        obtain ⟨aX213, cX213, hvX213⟩ := oslice hOX213
        subst hvX213
        clear hgX213
        refine hKK.out _ _ ⟨(PP.out.pbox.next belX213).1, belX213⟩ (fun _ => ?_)
        clear hKK KK
        try dsimp only [getElem_toArray, getElem_cons_succ, getElem_cons_zero, Act.put]
        try simp only [setIfInBounds_toArray, set_cons_zero, set_cons_succ]
        refine wpAnyH_ready (rs := [13]) (by kernel_rfl) (by simp) (AllReadyH.cons rfl (fun KK hKK => ?_) AllReadyH.nil)
        refine step_append_vals rfl (.tmp 42) (.tmp 46) 26 rfl w2.heap.size 23 i0 (.slice none 0 0) 1 24 Try.underlying26 HI0.out hz0 hz1 hz2 rfl (by decide) (.slice aX213 (N - K + 1) cX213) (N - K + 1) (us ++ [(.slice (some ⟨X185.heap.size, 0, none⟩) 0 0)]) rfl hOX213 (some ⟨pb, po, none⟩) K cp vs rfl (by rw [hvs.out, Nat.mul_one]) (hvsn.out _ (BW2.out.trans (belX213.mono BW2.out.size))) hvs1 (by unfold maxLen; omega) (by omega) belX213.size ?_
        intro vX214 X214 hOX214 hgX214
        have belX214 : Below w2.heap.size w2 X214 := row_below belX213 belX213.size hOX213 hgX214
        have hBX214 : Boxed X214 bb 28 (.slice none 0 0) := box_grown hBX213 hOX213 hgX214
        obtain ⟨aX214, cX214, hvX214⟩ := oslice hOX214
        subst hvX214
        clear hgX214
        refine hKK.out _ _ ⟨(PP.out.pbox.next belX214).1, belX214⟩ (fun _ => ?_)
        clear hKK KK
        try dsimp only [getElem_toArray, getElem_cons_succ, getElem_cons_zero, Act.put]
        try simp only [setIfInBounds_toArray, set_cons_zero, set_cons_succ]
        refine wpAnyH_take (i := 14) (v := ?_) rfl (by kernel_rfl) (by kernel_rfl) (by kernel_rfl) (fun _ _ _ h => h) (Or.inl ⟨by kernel_rfl, ?_⟩) ⟨(PP.out.pbox.next belX214).1, belX214⟩ ?_
        rotate_left
        ·(intro w0 z; (try dsimp only at z); obtain ⟨c0, hLB⟩ := z; go_simp; try with_reducible rfl)
        try dsimp only [getElem_toArray, getElem_cons_succ, getElem_cons_zero, Act.put]
        try simp only [setIfInBounds_toArray, set_cons_zero, set_cons_succ]
        refine wpAnyH_ready (rs := [16]) (by kernel_rfl) (by simp) (AllReadyH.cons rfl (fun KK hKK => ?_) AllReadyH.nil)
        have hcb := hBX214.cell
        have hfb := hBX214.frozen
        go_simp
        obtain ⟨X215, hX215⟩ : ∃ X, X = X214.setCell ⟨bb, 0, none⟩ (.slice aX214 (N - K + 1 + K) cX214) := ⟨_, rfl⟩
        have belX215 : Below w2.heap.size w2 X215 := by rw [hX215]; exact belX214.setCell (p := ⟨bb, 0, none⟩) hbbw _
        have hfin := turned_end (hO := hOX214) (hB := hBX214) (read_turned (g := X185.heap.size) husr.out hvsr.out) (BW2.out.trans (belX215.mono BW2.out.size)) hX215 (by rw [turned_length, HN0.out]; omega)
        rw [← hX215]
        clear hX215
        refine hKK.out _ _ ⟨(PP.out.pbox.next belX215).1, belX215⟩ (fun _ => ?_)
        clear hKK KK
        refine wpAnyH_done (by kernel_rfl) ?_ _
        try dsimp only [getElem_toArray, getElem_cons_succ, getElem_cons_zero, Act.put]
        try simp only [setIfInBounds_toArray, set_cons_zero, set_cons_succ]
        have hp := PP.out.next belX215
        go_wp2_with (fail)
        go_meet
        exact ⟨bb, _, rfl, hp, hfin.1, hfin.2⟩
      ·go_simp
       obtain ⟨X216, hX216⟩ : ∃ X, X = X204.alloc (.cells #[(.slice (some ⟨X185.heap.size, 0, none⟩) 0 0)] 23) := ⟨_, rfl⟩
       have belX216 : Below w2.heap.size w2 X216 := by rw [hX216]; exact belX204.alloc belX204.size _
       have hBX216 : Boxed X216 bb 28 (.slice none 0 0) := by rw [hX216]; exact hBX204.alloc _
       obtain ⟨b7, hb7⟩ : ∃ b7, b7 = X204.heap.size := ⟨_, rfl⟩
       have hCX216 : Boxed X216 b7 23 (.slice (some ⟨X185.heap.size, 0, none⟩) 0 0) := by rw [hX216, hb7]; exact Boxed.new _ _ _
       rw [← hb7]
       clear hb7
       rw [← hX216]
       clear hX216
       refine hKK.out _ _ ⟨(PP.out.pbox.next belX216).1, belX216⟩ (fun _ => ?_)
       clear hKK KK
       try dsimp only [getElem_toArray, getElem_cons_succ, getElem_cons_zero, Act.put]
       try simp only [setIfInBounds_toArray, set_cons_zero, set_cons_succ]
       refine wpAnyH_ready (rs := [0]) (by kernel_rfl) (by simp) (AllReadyH.cons rfl (fun KK hKK => ?_) AllReadyH.nil)
       go_simp
       obtain ⟨X217, hX217⟩ : ∃ X, X = X216.alloc (.cells #[] 23) := ⟨_, rfl⟩
       have belX217 : Below w2.heap.size w2 X217 := by rw [hX217]; exact belX216.alloc belX216.size _
       have hBX217 : Boxed X217 bb 28 (.slice none 0 0) := by rw [hX217]; exact hBX216.alloc _
       have hCX217 : Boxed X217 b7 23 (.slice (some ⟨X185.heap.size, 0, none⟩) 0 0) := by rw [hX217]; exact hCX216.alloc _
       have hOX217 : X217.ownsRow w2.heap.size 23 1 (.slice (some ⟨X216.heap.size, 0, none⟩) 0 0) 0 [] := by rw [hX217]; exact rowS (World.alloc_heap_new _ _) belX216.size
       have hne7 : (Value.slice (some ⟨X216.heap.size, 0, none⟩) 0 0).ownBlock ≠ some b7 := fun e => by have e1 : X216.heap.size = b7 := Option.some.inj e; have := hCX216.lt; omega
       rw [← hX217]
       clear hX217
       refine hKK.out _ _ ⟨(PP.out.pbox.next belX217).1, belX217⟩ (fun _ => ?_)
       clear hKK KK
       try dsimp only [getElem_toArray, getElem_cons_succ, getElem_cons_zero, Act.put]
       try simp only [setIfInBounds_toArray, set_cons_zero, set_cons_succ]
       refine wpAnyH_ready (rs := [5]) (by kernel_rfl) (by simp) (AllReadyH.cons rfl (fun KK hKK => ?_) AllReadyH.nil)
       refine step_append_vals rfl (.tmp 34) (.tmp 38) 26 rfl w2.heap.size 23 i0 (.slice none 0 0) 1 24 Try.underlying26 HI0.out hz0 hz1 hz2 rfl (by decide) (.slice (some ⟨X216.heap.size, 0, none⟩) 0 0) 0 [] rfl hOX217 (some ⟨pb, po + K, none⟩) (N - K) (cp - K) us rfl (by rw [hus.out, Nat.mul_one]) (husn.out _ (BW2.out.trans (belX217.mono BW2.out.size))) hus1 (by unfold maxLen; omega) (by omega) belX217.size ?_
       intro vX218 X218 hOX218 hgX218
       rw [Nat.zero_add, List.nil_append] at hOX218
       have belX218 : Below w2.heap.size w2 X218 := row_below belX217 belX217.size hOX217 hgX218
       have hBX218 : Boxed X218 bb 28 (.slice none 0 0) := box_grown hBX217 hOX217 hgX218
       have hCX218 := boxed_keep hCX217 hne7 hgX218
       obtain ⟨aX218, cX218, hvX218⟩ := oslice hOX218
       subst hvX218
       clear hgX218
       refine hKK.out _ _ ⟨(PP.out.pbox.next belX218).1, belX218⟩ (fun _ => ?_)
       clear hKK KK
       try dsimp only [getElem_toArray, getElem_cons_succ, getElem_cons_zero, Act.put]
       try simp only [setIfInBounds_toArray, set_cons_zero, set_cons_succ]
       refine wpAnyH_ready (rs := [8]) (by kernel_rfl) (by simp) (AllReadyH.cons rfl (fun KK hKK => ?_) AllReadyH.nil)
       refine step_append_vals rfl (.tmp 39) (.tmp 41) 26 rfl w2.heap.size 23 i0 (.slice none 0 0) 1 24 Try.underlying26 HI0.out hz0 hz1 hz2 rfl (by decide) (.slice aX218 (N - K) cX218) (N - K) us rfl hOX218 (some ⟨b7, 0, none⟩) 1 1 [(.slice (some ⟨X185.heap.size, 0, none⟩) 0 0)] rfl rfl (boxed_news hCX218) (fun u hu => by rw [List.mem_singleton.1 hu]; rfl) (by unfold maxLen; omega) (by omega) belX218.size ?_
       intro vX219 X219 hOX219 hgX219
       have belX219 : Below w2.heap.size w2 X219 := row_below belX218 belX218.size hOX218 hgX219
       have hBX219 : Boxed X219 bb 28 (.slice none 0 0) := box_grown hBX218 hOX218 hgX219
       obtain ⟨aX219, cX219, hvX219⟩ := oslice hOX219
       subst hvX219
       clear hgX219
       refine hKK.out _ _ ⟨(PP.out.pbox.next belX219).1, belX219⟩ (fun _ => ?_)
       clear hKK KK
       try dsimp only [getElem_toArray, getElem_cons_succ, getElem_cons_zero, Act.put]
       try simp only [setIfInBounds_toArray, set_cons_zero, set_cons_succ]
       refine wpAnyH_ready (rs := [13]) (by kernel_rfl) (by simp) (AllReadyH.cons rfl (fun KK hKK => ?_) AllReadyH.nil)
       refine step_append_vals rfl (.tmp 42) (.tmp 46) 26 rfl w2.heap.size 23 i0 (.slice none 0 0) 1 24 Try.underlying26 HI0.out hz0 hz1 hz2 rfl (by decide) (.slice aX219 (N - K + 1) cX219) (N - K + 1) (us ++ [(.slice (some ⟨X185.heap.size, 0, none⟩) 0 0)]) rfl hOX219 (some ⟨pb, po, none⟩) K cp vs rfl (by rw [hvs.out, Nat.mul_one]) (hvsn.out _ (BW2.out.trans (belX219.mono BW2.out.size))) hvs1 (by unfold maxLen; omega) (by omega) belX219.size ?_
       intro vX220 X220 hOX220 hgX220
       have belX220 : Below w2.heap.size w2 X220 := row_below belX219 belX219.size hOX219 hgX220
       have hBX220 : Boxed X220 bb 28 (.slice none 0 0) := box_grown hBX219 hOX219 hgX220
       obtain ⟨aX220, cX220, hvX220⟩ := oslice hOX220
       subst hvX220
       clear hgX220
       refine hKK.out _ _ ⟨(PP.out.pbox.next belX220).1, belX220⟩ (fun _ => ?_)
       clear hKK KK
       try dsimp only [getElem_toArray, getElem_cons_succ, getElem_cons_zero, Act.put]
       try simp only [setIfInBounds_toArray, set_cons_zero, set_cons_succ]
       refine wpAnyH_take (i := 14) (v := ?_) rfl (by kernel_rfl) (by kernel_rfl) (by kernel_rfl) (fun _ _ _ h => h) (Or.inl ⟨by kernel_rfl, ?_⟩) ⟨(PP.out.pbox.next belX220).1, belX220⟩ ?_
       rotate_left
       ·(intro w0 z; (try dsimp only at z); obtain ⟨c0, hLB⟩ := z; go_simp; try with_reducible rfl)
       try dsimp only [getElem_toArray, getElem_cons_succ, getElem_cons_zero, Act.put]
       try simp only [setIfInBounds_toArray, set_cons_zero, set_cons_succ]
       refine wpAnyH_ready (rs := [16]) (by kernel_rfl) (by simp) (AllReadyH.cons rfl (fun KK hKK => ?_) AllReadyH.nil)
       have hcb := hBX220.cell
       have hfb := hBX220.frozen
       go_simp
       obtain ⟨X221, hX221⟩ : ∃ X, X = X220.setCell ⟨bb, 0, none⟩ (.slice aX220 (N - K + 1 + K) cX220) := ⟨_, rfl⟩
       have belX221 : Below w2.heap.size w2 X221 := by rw [hX221]; exact belX220.setCell (p := ⟨bb, 0, none⟩) hbbw _
       have hfin := turned_end (hO := hOX220) (hB := hBX220) (read_turned (g := X185.heap.size) husr.out hvsr.out) (BW2.out.trans (belX221.mono BW2.out.size)) hX221 (by rw [turned_length, HN0.out]; omega)
       rw [← hX221]
       clear hX221
       refine hKK.out _ _ ⟨(PP.out.pbox.next belX221).1, belX221⟩ (fun _ => ?_)
       clear hKK KK
       refine wpAnyH_done (by kernel_rfl) ?_ _
       try dsimp only [getElem_toArray, getElem_cons_succ, getElem_cons_zero, Act.put]
       try simp only [setIfInBounds_toArray, set_cons_zero, set_cons_succ]
       have hp := PP.out.next belX221
       go_wp2_with (fail)
       go_meet
       exact ⟨bb, _, rfl, hp, hfin.1, hfin.2⟩
   case rest =>
    obtain ⟨bb, vq, hs8, hP0⟩ := hcut
    subst hs8
    have HLq : Hid ((turned rr K).length ≤ 500 ∧ many (turned rr K) ≤ 2200) := ⟨by rw [turned_length]; have := HN0.out; omega, by rw [turned_many]; omega⟩
    have HFp : Hid (∀ W, HasIns W (.slice an L cn) (.slice am M cm) x → HasRts W (.slice (some ⟨pb, po, none⟩) N cp) rr → Calls Try.prog 19 #[.agg #[.string x.name, .int .i64 x.kind, .int .i64 x.metric, .int .i64 x.scale, .int .i64 x.cap, .int .i64 x.fleet, (.slice an L cn), (.slice am M cm)], .agg #[(.slice (some ⟨pb, po, none⟩) N cp)]] W fun e w' => e = .returned (.bool (feasB x rr)) ∧ Below W.heap.size W w') := fun W h1 h2 => H.feasible x _ _ _ rr W h1 HFI.out (by have := HN0.out; omega) (by omega) h2
    have HFq : Hid (∀ W, HasIns W (.slice an L cn) (.slice am M cm) x → HasRts W vq (turned rr K) → Calls Try.prog 19 #[.agg #[.string x.name, .int .i64 x.kind, .int .i64 x.metric, .int .i64 x.scale, .int .i64 x.cap, .int .i64 x.fleet, (.slice an L cn), (.slice am M cm)], .agg #[vq]] W fun e w' => e = .returned (.bool (feasB x rr)) ∧ Below W.heap.size W w') := fun W h1 h2 => (even_turned x rr K).feas ▸ H.feasible x _ _ _ (turned rr K) W h1 HFI.out HLq.out.1 HLq.out.2 h2
    have HFn : Hid (∀ u W, HasIns W (.slice an L cn) (.slice am M cm) x → HasRts W u (normR rr) → Calls Try.prog 19 #[.agg #[.string x.name, .int .i64 x.kind, .int .i64 x.metric, .int .i64 x.scale, .int .i64 x.cap, .int .i64 x.fleet, (.slice an L cn), (.slice am M cm)], .agg #[u]] W fun e w' => e = .returned (.bool (feasB x rr)) ∧ Below W.heap.size W w') := fun u W h1 h2 => (even_norm x rr).feas ▸ H.feasible x _ _ _ (normR rr) W h1 HFI.out (by have := normR_len rr; have := HN0.out; omega) (by rw [norm_many]; omega) h2
    have HNo : Hid (∀ W, HasRts W (.slice (some ⟨pb, po, none⟩) N cp) rr → Calls Try.prog 26 #[.agg #[(.slice (some ⟨pb, po, none⟩) N cp)]] W fun e w' => ∃ u, e = .returned (.agg #[u]) ∧ HasRts w' u (normR rr) ∧ Below W.heap.size W w') := fun W h => Try.PlanNorm_calls _ rr W (by have := HN0.out; omega) (fun l hl => by have := (HLL.out l hl); omega) h
    obtain ⟨m, hm⟩ : ∃ m, (checkW x rr).length = m := ⟨_, rfl⟩
    have HCp : Hid (∀ W, HasIns W (.slice an L cn) (.slice am M cm) x → HasRts W (.slice (some ⟨pb, po, none⟩) N cp) rr → Calls Try.prog 14 #[.agg #[.string x.name, .int .i64 x.kind, .int .i64 x.metric, .int .i64 x.scale, .int .i64 x.cap, .int .i64 x.fleet, (.slice an L cn), (.slice am M cm)], .agg #[(.slice (some ⟨pb, po, none⟩) N cp)]] W fun e w' => ∃ a c, e = .returned (.slice a m c) ∧ Below W.heap.size W w') := fun W h1 h2 => (H.check x _ _ _ rr W h1 HFI.out (by have := HN0.out; omega) (by omega) h2).mono fun e w' ⟨v', h3, h4, h5⟩ => by obtain ⟨a, c, h6, _⟩ := h4.dat; exact ⟨a, c, by rw [h3, h6, hm], h5⟩
    have HCq : Hid (∀ W, HasIns W (.slice an L cn) (.slice am M cm) x → HasRts W vq (turned rr K) → Calls Try.prog 14 #[.agg #[.string x.name, .int .i64 x.kind, .int .i64 x.metric, .int .i64 x.scale, .int .i64 x.cap, .int .i64 x.fleet, (.slice an L cn), (.slice am M cm)], .agg #[vq]] W fun e w' => ∃ a c, e = .returned (.slice a m c) ∧ Below W.heap.size W w') := fun W h1 h2 => (H.check x _ _ _ (turned rr K) W h1 HFI.out HLq.out.1 HLq.out.2 h2).mono fun e w' ⟨v', h3, h4, h5⟩ => by obtain ⟨a, c, h6, _⟩ := h4.dat; exact ⟨a, c, by rw [h3, h6, (even_turned x rr K).check, hm], h5⟩
    have P0 := Lib.hid hP0
    clear hP0 PP BW2 husn hvsn hus hvs HI0 hz0 hz1 hz2 husr hvsr hus1 hvs1 hm HLq HFI HQ HN0 HLN hmn hk1 hk2 hk3 hKN hcp hcm hz
    generalize feasB x rr = fb at *
    cases fb
    all_goals
     obtain ⟨c0, c1, c2, c3, c4, c5, c6, c7, hp0, -⟩ := lwS_S P0.out.b
     have hq0 := P0.out.qbox.1
     go_upto_region 6 with (first
      | (go_at_call 19; (with_reducible refine (HFp.out _ (HX.out.next P0.out.b.below) (HV.out.next P0.out.b.below)).mono ?_); rintro e w5 ⟨rfl, hb5⟩; have P5 := Lib.hid (P0.out.next hb5); clear hb5 hq0 c0 c1 c2 c3 c4 c5 c6 c7 hp0; obtain ⟨c0, c1, c2, c3, c4, c5, c6, c7, hp0, -⟩ := lwS_S P5.out.b; have hq0 := P5.out.qbox.1))
     have HMM : Hid (((m : Int) == (m : Int)) = true) := beq_self_eq_true _
     clear P0
     go_region_held3 (fun W => W.cell? ⟨w.heap.size, 0, none⟩ = some (.string x.name) ∧ W.cell? ⟨w.heap.size, 1, none⟩ = some (.int .i64 x.kind) ∧ W.cell? ⟨w.heap.size, 2, none⟩ = some (.int .i64 x.metric) ∧ W.cell? ⟨w.heap.size, 3, none⟩ = some (.int .i64 x.scale) ∧ W.cell? ⟨w.heap.size, 4, none⟩ = some (.int .i64 x.cap) ∧ W.cell? ⟨w.heap.size, 5, none⟩ = some (.int .i64 x.fleet) ∧ W.cell? ⟨w.heap.size, 6, none⟩ = some (.slice an L cn) ∧ W.cell? ⟨w.heap.size, 7, none⟩ = some (.slice am M cm) ∧ W.cell? ⟨w.heap.size + 1, 0, none⟩ = some (.slice (some ⟨pb, po, none⟩) N cp) ∧ W.cell? ⟨bb, 0, none⟩ = some vq ∧ OrS w x (.slice an L cn) (.slice am M cm) (.slice (some ⟨pb, po, none⟩) N cp) bb vq (turned rr K) W)
      ((go_split_ands; (first | exact orS_S (by assumption) | exact orS_S P5.out.drew | exact orS_S (OrS.drew (by assumption)) | exact orS_S (OrS.next (by assumption) (by assumption)))))
      (first
       | (go_at_call 19; (with_reducible refine (HFq.out _ (HX.out.next (show OrS w x (.slice an L cn) (.slice am M cm) (.slice (some ⟨pb, po, none⟩) N cp) bb vq (turned rr K) _ by go_split_ands; first | assumption | exact OrS.drew (by assumption)).b.below) (show OrS w x (.slice an L cn) (.slice am M cm) (.slice (some ⟨pb, po, none⟩) N cp) bb vq (turned rr K) _ by go_split_ands; first | assumption | exact OrS.drew (by assumption)).hq).mono ?_); rintro e w' ⟨rfl, hb⟩)
       | (go_at_call 26; (with_reducible refine (HNo.out _ (HV.out.next (show OrS w x (.slice an L cn) (.slice am M cm) (.slice (some ⟨pb, po, none⟩) N cp) bb vq (turned rr K) _ by go_split_ands; first | assumption | exact OrS.drew (by assumption)).b.below)).mono ?_); rintro e w' ⟨u7, rfl, hu7, hb⟩)
       | (go_at_call 19; (with_reducible refine (HFn.out _ _ (HX.out.next (show OrS w x (.slice an L cn) (.slice am M cm) (.slice (some ⟨pb, po, none⟩) N cp) bb vq (turned rr K) _ by go_split_ands; first | assumption | exact OrS.drew (by assumption)).b.below) hu7).mono ?_); rintro e w' ⟨rfl, hb⟩)
       | (go_at_call 14; (with_reducible refine (HCq.out _ (HX.out.next (show OrS w x (.slice an L cn) (.slice am M cm) (.slice (some ⟨pb, po, none⟩) N cp) bb vq (turned rr K) _ by go_split_ands; first | assumption | exact OrS.drew (by assumption)).b.below) (show OrS w x (.slice an L cn) (.slice am M cm) (.slice (some ⟨pb, po, none⟩) N cp) bb vq (turned rr K) _ by go_split_ands; first | assumption | exact OrS.drew (by assumption)).hq).mono ?_); rintro e w' ⟨a1, e1, rfl, hb⟩)
       | (go_at_call 14; (with_reducible refine (HCp.out _ (HX.out.next (show OrS w x (.slice an L cn) (.slice am M cm) (.slice (some ⟨pb, po, none⟩) N cp) bb vq (turned rr K) _ by go_split_ands; first | assumption | exact OrS.drew (by assumption)).b.below) (HV.out.next (show OrS w x (.slice an L cn) (.slice am M cm) (.slice (some ⟨pb, po, none⟩) N cp) bb vq (turned rr K) _ by go_split_ands; first | assumption | exact OrS.drew (by assumption)).b.below)).mono ?_); rintro e w' ⟨a2, e2, rfl, hb⟩))
     rename_i hh
     have T := (show _ ∧ _ ∧ _ ∧ _ ∧ _ ∧ _ ∧ _ ∧ _ ∧ _ ∧ _ ∧ OrS w x (.slice an L cn) (.slice am M cm) (.slice (some ⟨pb, po, none⟩) N cp) bb vq (turned rr K) _ by assumption).2.2.2.2.2.2.2.2.2.2
     have BT := T.b.below
     clear hh T P5
     go_wp2
     go_ret
     exact ⟨rfl, BT⟩
end Go.Proofs
