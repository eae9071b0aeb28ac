/- The law FeasAlone, as a contract. Conditions: what package feas answers. -/
import Derived.Test.YthgagmndefaniaaG10
import Derived.Test.YthgagmndefaniaaFeasLone2M
import Derived.Test.YthgagmndefaniaaLawFeasChecksM
import Derived.Test.YthgagmndefaniaaG29
import Derived.Test.YthgagmndefaniaaG19
import Derived.Test.YthgagmndefaniaaG30
namespace Go.Feas
open Go.Canon Go.Plans
theorem tour_head : ∀ {n : Nat}, 0 < n → (tourN n)[0]? = some 0
  | 1, _ => rfl
  | n + 2, _ => by
    have h := tour_head (n := n + 1) (by omega)
    rw [tourN, List.getElem?_append_left (by rw [tour_length]; omega)]
    exact h
theorem many_lone : ∀ n, many (lone n) = n - 1
  | 0 => rfl
  | n + 1 => by
    rw [lone, many_append, many_lone n]
    split
    · simp [many]; omega
    · simp [many]; omega
end Go.Feas
namespace Go.Proofs
open Go.RowKit Go.Shelf Go.Canon Go.Feas Go.Plans
attribute [local go_sem] Oper.semAt_some
attribute [local go_sem ↓] Go.wp_at_zero Go.wp_at_succ
theorem HasWrs.got {W : World} {v : Value} {l : List Wr} (h : HasWrs W v l) {k : Nat} {p : Wr} (hk : l[k]? = some p) : ∃ b off cap, v = .slice (some ⟨b, off, none⟩) l.length cap ∧ b < W.heap.size ∧ W.cell? ⟨b, off + k * 3, none⟩ = some (.int .i64 p.1) ∧ W.cell? ⟨b, off + k * 3 + 1, none⟩ = some (.int .i64 p.2.1) ∧ W.cell? ⟨b, off + k * 3 + 2, none⟩ = some (.int .i64 p.2.2) := by
  rcases h with ⟨rfl, _⟩ | ⟨b, off, cap, h1, _, _, h4⟩
  · simp at hk
  · exact ⟨b, off, cap, h1, h4.1, h4.2 k p hk⟩
/-- An instance and a plan in their boxes, all nodes in a row, and a route for each of them. -/
structure AlS (w : World) (x : Ins) (vn vm : Value) (B1 : Nat) (o : Value) (ka : Nat) (vp : Value) (us : List Value) (kr : Nat) (W : World) : Prop where
  box : InsBox W w.heap.size x vn vm 25
  below : Below w.heap.size w W
  pb : Boxed W B1 28 vp
  lt : w.heap.size < B1
  all : W.ownsRow (w.heap.size + 1) 3 1 o ka ((tourN ka).map intV)
  rts : W.ownsRow (w.heap.size + 1) 23 1 vp (Feas.lone kr).length us
  vals : ValsR W us (Feas.lone kr)
theorem own3_ne_box {W : World} {base b n : Nat} {v x : Value} {xs : List Value} (h : W.ownsRow base 3 1 v n xs) (hb : Boxed W b 28 x) : v.ownBlock ≠ some b := by
  intro e
  rcases h.2 with ⟨rfl, _⟩ | ⟨g, cap, cur, rfl, _, hg, _⟩
  · cases e
  · have hgb : g = b := Option.some.inj e
    subst hgb
    rw [show W.heap[g]? = _ from hb] at hg
    cases hg
theorem boxed_next {W W' : World} {b : Nat} {t : TypeId} {v : Value} (h : Boxed W b t v) (hb : Below W.heap.size W W') : Boxed W' b t v := (hb.block b h.lt).trans h
theorem AlS.next {w W W' : World} {x : Ins} {vn vm : Value} {B1 : Nat} {o vp : Value} {ka kr : Nat} {us : List Value} (h : AlS w x vn vm B1 o ka vp us kr W) (hb : Below W.heap.size W W') : AlS w x vn vm B1 o ka vp us kr W' :=
  ⟨h.box.next hb, h.below.trans (hb.mono h.below.size), boxed_next h.pb hb, h.lt, fowns_next h.all hb, fowns_next h.rts hb, h.vals.next hb⟩
theorem AlS.drewN {w W : World} {x : Ins} {vn vm : Value} {B1 : Nat} {o vp : Value} {ka kr : Nat} {us : List Value} (h : AlS w x vn vm B1 o ka vp us kr W) (n : Nat) : AlS w x vn vm B1 o ka vp us kr (W.drewN n) := h.next (cbelow_drewN (Below.refl _ _) n)
theorem AlS.grow {w W W' : World} {x : Ins} {vn vm : Value} {B1 : Nat} {o o' vp : Value} {ka ka' kr : Nat} {us : List Value} (h : AlS w x vn vm B1 o ka vp us kr W) (hk : kr ≤ ka) (hg : W.grownBy W' o.ownBlock) (hr : W'.ownsRow (w.heap.size + 1) 3 1 o' ka' ((tourN ka').map intV)) : AlS w x vn vm B1 o' ka' vp us kr W' := by
  refine ⟨h.box.grown (Nat.lt_succ_self _) h.all hg, fgrown_below h.below h.below.size (Nat.le_succ _) h.all hg, (hg.block B1 h.pb.lt (fun e => own3_ne_box h.all h.pb e.symm)).trans h.pb, h.lt, hr, h.rts.kept hg (two_rows h.rts h.all (by decide)), ⟨h.vals.1, fun i l hi => ?_⟩⟩
  obtain ⟨u, h1, h2⟩ := h.vals.2 i l hi
  refine ⟨u, h1, h2.grown hg (fun e => ?_)⟩
  obtain ⟨b, cap, rfl, _, _, _, h5⟩ := h2
  obtain ⟨n, hn0, hn1, rfl⟩ := lone_mem (List.mem_of_getElem? hi)
  have hc := h5.2 0 _ rfl
  rcases h.all.2 with ⟨rfl, _⟩ | ⟨g, cp, cur, rfl, _⟩
  · cases e
  · have hgb : b = g := Option.some.inj e
    subst hgb
    have hd := World.ownsRow.cellAt h.all 0 (by omega)
    rw [Nat.zero_add] at hc
    rw [hc, List.getElem?_map, tour_head (by omega)] at hd
    have e2 : (Value.int .i64 (n : Int)) = intV 0 := Option.some.inj hd
    unfold intV at e2
    injection e2 with _ e3
    omega
theorem AlS.add {w W w8 : World} {x : Ins} {vn vm : Value} {B1 : Nat} {o vp : Value} {av : Option Addr} {cv ka k : Nat} {us : List Value} (h : AlS w x vn vm B1 o ka vp us k W) (hk : 0 < k)
    (hr : w8.ownsRow (w.heap.size + 1) 23 1 (.slice av ((Feas.lone k).length + 1) cv) ((Feas.lone k).length + 1) (us ++ [.slice (some ⟨W.heap.size, 0, none⟩) 1 1]))
    (hg : ((W.alloc (.cells #[.int .i64 (k : Int)] 3)).alloc (.cells #[.slice (some ⟨W.heap.size, 0, none⟩) 1 1] 23)).grownBy w8 vp.ownBlock) :
    AlS w x vn vm B1 o ka (.slice av ((Feas.lone k).length + 1) cv) (us ++ [.slice (some ⟨W.heap.size, 0, none⟩) 1 1]) (k + 1) (w8.setCell ⟨B1, 0, none⟩ (.slice av ((Feas.lone k).length + 1) cv)) := by
  have hb7 : Below W.heap.size W ((W.alloc (.cells #[.int .i64 (k : Int)] 3)).alloc (.cells #[.slice (some ⟨W.heap.size, 0, none⟩) 1 1] 23)) := below_two W _ _
  have hrow : RowAt (W.alloc (.cells #[.int .i64 (k : Int)] 3)) (.slice (some ⟨W.heap.size, 0, none⟩) 1 1) [(k : Int)] := by
    refine ⟨W.heap.size, 1, rfl, Nat.le_refl _, by unfold maxLen; omega, Nat.one_pos, by simp, fun j y hj => ?_⟩
    have e := cells_one W (.int .i64 (k : Int)) 3
    rcases j with _ | j
    · have e2 : (k : Int) = y := by simpa using hj
      subst e2
      exact e 0 _ rfl
    · simp at hj
  have hrow7 := hrow.next (fbelow_box (W.alloc (.cells #[.int .i64 (k : Int)] 3)) (.cells #[.slice (some ⟨W.heap.size, 0, none⟩) 1 1] 23))
  have h7 := h.next hb7
  obtain ⟨va, vc, hvp⟩ := owns_dat h.rts
  have hne : vp.ownBlock ≠ some W.heap.size := fun e => by have := (h.rts.lt _ e).2; omega
  have h8 : ValsR w8 (us ++ [.slice (some ⟨W.heap.size, 0, none⟩) 1 1]) (Feas.lone (k + 1)) := by
    rw [Feas.lone, if_pos hk]
    exact (h7.vals.grown h7.rts hg).snoc (hrow7.grown hg (fun e => hne e.symm))
  have hpb8 : Boxed w8 B1 28 vp := (hg.block B1 h7.pb.lt (fun e => own_ne_box h7.rts h7.pb e.symm)).trans h7.pb
  have hl : (Feas.lone (k + 1)).length = (Feas.lone k).length + 1 := by rw [Feas.lone, if_pos hk, List.length_append]; rfl
  have hbx8 : InsBox w8 w.heap.size x vn vm 25 := h7.box.grown (Nat.lt_succ_self _) h7.rts hg
  have hall8 : w8.ownsRow (w.heap.size + 1) 3 1 o ka ((tourN ka).map intV) := h7.all.kept hg (two_rows h7.all h7.rts (by decide))
  refine ⟨hbx8.below ((Below.refl B1 w8).setCell (Nat.le_refl _) _) h.lt, (fgrown_below h7.below h7.below.size (Nat.le_succ _) h7.rts hg).setCell (Nat.le_of_lt h.lt) _, set_block hpb8 0 _, h.lt, hall8.kept (grownBy_setCell' w8 B1 _) (.inr (own3_ne_box hall8 hpb8)), ?_, h8.box (hpb8.cell.trans (by rw [hvp])) _⟩
  rw [hl]
  exact row_set hr hpb8
theorem boxed_new (w : World) (t : TypeId) (v : Value) : Boxed (w.alloc (.cells #[v] t)) w.heap.size t v := World.alloc_heap_new w _
theorem AlS.pb_next {w W W8 : World} {x : Ins} {vn vm : Value} {B1 : Nat} {o vp : Value} {ka kr : Nat} {us : List Value} (h : AlS w x vn vm B1 o ka vp us kr W) (hg : W.grownBy W8 vp.ownBlock) : Boxed W8 B1 28 vp := (hg.block B1 h.pb.lt (fun e => own_ne_box h.rts h.pb e.symm)).trans h.pb
theorem rts_one {W : World} {v : Value} {l : List Int} (h : HasInts W v l) : HasRts (W.alloc (.cells #[v] 23)) (.slice (some ⟨W.heap.size, 0, none⟩) 1 1) [l] := by
  refine .inr ⟨W.heap.size, 0, 1, rfl, Nat.le_refl _, by unfold maxLen; omega, by simp, fun i r hi => ?_⟩
  rcases i with _ | i
  · have e : l = r := by simpa using hi
    subst e
    exact ⟨v, (boxed_new W 23 v).cell, h.next (fbelow_box W _)⟩
  · simp at hi
theorem AlS.one {w W : World} {x : Ins} {vn vm : Value} {B1 : Nat} {o vp : Value} {ka : Nat} {us : List Value} (h : AlS w x vn vm B1 o ka vp us 0 W) : AlS w x vn vm B1 o ka vp us 1 W := ⟨h.box, h.below, h.pb, h.lt, h.all, h.rts, h.vals⟩
theorem alS_start {w W : World} {x : Ins} {vn vm : Value} (h : BxS w x vn vm W) : AlS w x vn vm W.heap.size (.slice (some ⟨W.heap.size + 1, 0, none⟩) 0 0) 0 (.slice none 0 0) [] 0 ((W.alloc (.cells #[.slice none 0 0] 28)).alloc (.cells #[] 3)) := by
  have e : (W.alloc (.cells #[.slice none 0 0] 28)).heap.size = W.heap.size + 1 := by simp
  have hlt := h.box.lt
  refine ⟨(h.box.alloc _).alloc _, (h.below.alloc h.below.size _).alloc (by simp; omega) _, boxed_next (boxed_new W 28 _) (fbelow_box _ _), hlt, ?_, owns_nil _ _ _ _, ValsR.nil _⟩
  have h2 := cowns_empty (W.alloc (.cells #[.slice none 0 0] 28)) 3 1
  rw [e] at h2
  exact owns_baseLe h2 (by omega)
set_option maxRecDepth 100000 in
set_option maxHeartbeats 4000000 in
theorem Try.FeasAlone_calls (H : Try.FeasC) (x : Ins) (vn vm : Value) (w : World) (hx : HasIns w vn vm x) :
    Calls Try.prog 10 #[insV x vn vm] w fun e w' => e = .returned (.bool true) ∧ Below w.heap.size w w' := by
  have HX := Lib.hid hx
  have HSH := Lib.hid fun W => Try.fshown_calls H W
  cases hq : wellQ x with
  | false =>
    have HW : Hid (∀ W, HasIns W vn vm x → Calls Try.prog 11 #[insV x vn vm] W fun e w' => e = .returned (.bool false) ∧ Below W.heap.size W w') := fun W h => hq ▸ Try.lwell_calls x vn vm W h
    obtain ⟨an, cn, rfl, _⟩ := hx.nodes.dat
    obtain ⟨am, cm, rfl, _⟩ := hx.matrix.dat
    unfold insV at HW ⊢
    clear hx hq H
    generalize x.nodes.length = L at *
    generalize x.matrix.length = M at *
    have HS0 : Hid (BxS w x (.slice an L cn) (.slice am M cm) (w.alloc (.cells #[.string x.name, .int .i64 x.kind, .int .i64 x.metric, .int .i64 x.scale, .int .i64 x.cap, .int .i64 x.fleet, .slice an L cn, .slice am M cm] 25))) := ⟨InsBox.new w x _ _ 25, fbelow_box w _⟩
    go_enter Try.func10, Try.ntmps10
    go_wp2_with (first | (go_at_call 11; (with_reducible refine (HW.out _ (HX.out.next HS0.out.below)).mono ?_); rintro e w1 ⟨rfl, hb1⟩; have HS1 := Lib.hid (HS0.out.next hb1)) | (go_at_call 13; (with_reducible refine (HSH.out _).mono ?_); rintro e w2 ⟨rfl, hb2⟩))
    go_ret
    exact ⟨rfl, HS1.out.below.trans (hb2.mono HS1.out.below.size)⟩
  | true =>
    have HW : Hid (∀ W, HasIns W vn vm x → Calls Try.prog 11 #[insV x vn vm] W fun e w' => e = .returned (.bool true) ∧ Below W.heap.size W w') := fun W h => hq ▸ Try.lwell_calls x vn vm W h
    have HQ := Lib.hid (wellQ_iff.1 hq)
    by_cases h200 : 200 < x.nodes.length
    · obtain ⟨an, cn, rfl, _⟩ := hx.nodes.dat
      obtain ⟨am, cm, rfl, _⟩ := hx.matrix.dat
      unfold insV at HW ⊢
      clear hx hq H HQ
      generalize x.nodes.length = L at *
      generalize x.matrix.length = M at *
      have h2i : (200 : Int) < (L : Int) := by omega
      have HS0 : Hid (BxS w x (.slice an L cn) (.slice am M cm) (w.alloc (.cells #[.string x.name, .int .i64 x.kind, .int .i64 x.metric, .int .i64 x.scale, .int .i64 x.cap, .int .i64 x.fleet, .slice an L cn, .slice am M cm] 25))) := ⟨InsBox.new w x _ _ 25, fbelow_box w _⟩
      go_enter Try.func10, Try.ntmps10
      go_wp2_with (first | (go_at_call 11; (with_reducible refine (HW.out _ (HX.out.next HS0.out.below)).mono ?_); rintro e w1 ⟨rfl, hb1⟩; have HS1 := Lib.hid (HS0.out.next hb1); obtain ⟨c0, c1, c2, c3, c4, c5, c6, c7⟩ := HS1.out.box.cells) | (go_at_call 13; (with_reducible refine (HSH.out _).mono ?_); rintro e w2 ⟨rfl, hb2⟩))
      go_ret
      exact ⟨rfl, HS1.out.below.trans (hb2.mono HS1.out.below.size)⟩
    · have HFI := Lib.hid (fine_of HQ.out.well)
      have HWL := Lib.hid HQ.out.well
      have hlo := HFI.out.lo
      have hll := lone_length x.nodes.length
      have hmany : many (Feas.lone x.nodes.length) ≤ 300 := by
        have e : ∀ n, many (Feas.lone n) = n - 1 := fun n => by
          induction n with
          | zero => rfl
          | succ n ih =>
            rw [Feas.lone, many_append, ih]
            split
            · simp [many]; omega
            · simp [many]; omega
        rw [e]; omega
      have hmt : many [tourN x.nodes.length] ≤ 300 := by simp [many, tour_length]; omega
      have HFT : Hid (x.kind = 1 → ∀ W u, HasIns W vn vm x → HasRts W u [tourN x.nodes.length] → Calls Try.prog 19 #[insV x vn vm, planV u] W fun e w' => e = .returned (.bool true) ∧ Below W.heap.size W w') := fun h1 W u k1 k2 => by
        have h := H.feasible x vn vm u _ W k1 HFI.out (by simp) (by omega) k2
        rw [tour_feas h1 hlo] at h
        exact h
      have HCK : Hid (∀ W u, HasIns W vn vm x → HasRts W u (Feas.lone x.nodes.length) → Calls Try.prog 14 #[insV x vn vm, planV u] W fun e w' => ∃ v', e = .returned v' ∧ HasWrs w' v' (checkW x (Feas.lone x.nodes.length)) ∧ Below W.heap.size W w') := fun W u k1 k2 => H.check x vn vm u _ W k1 HFI.out (by omega) (by omega) k2
      have HFE : Hid (∀ W u, HasIns W vn vm x → HasRts W u (Feas.lone x.nodes.length) → Calls Try.prog 19 #[insV x vn vm, planV u] W fun e w' => e = .returned (.bool (feasB x (Feas.lone x.nodes.length))) ∧ Below W.heap.size W w') := fun W u k1 k2 => H.feasible x vn vm u _ W k1 HFI.out (by omega) (by omega) k2
      obtain ⟨b, off, cn, rfl, hlc, hcm, hNo⟩ := hx.all hlo
      obtain ⟨am, cm, rfl, _⟩ := hx.matrix.dat
      have HNO := Lib.hid fun i hi => nodesAt_nd hNo (i := i) hi
      have hbw := hNo.1
      obtain ⟨i0, hio, hz0, hz1, hz2⟩ := info_parts Try.info3
      have HI := Lib.hid hio
      obtain ⟨j0, hjo, y0, y1, y2⟩ := info_parts Try.pinfo23
      have HJ := Lib.hid hjo
      unfold insV at HW HFT HCK HFE ⊢
      unfold planV at HFT HCK HFE
      clear hx hq H HQ hNo hio hjo hmt
      obtain ⟨L, hL⟩ : ∃ L, x.nodes.length = L := ⟨_, rfl⟩
      have HL := Lib.hid hL
      rw [hL] at HW HX HFT HCK HFE hlo hll hmany h200 hlc ⊢
      clear hL
      have hL2 : ¬ (200 : Int) < (L : Int) := by omega
      generalize x.matrix.length = M at *
      have HS0 : Hid (BxS w x (.slice (some ⟨b, off, none⟩) L cn) (.slice am M cm) (w.alloc (.cells #[.string x.name, .int .i64 x.kind, .int .i64 x.metric, .int .i64 x.scale, .int .i64 x.cap, .int .i64 x.fleet, .slice (some ⟨b, off, none⟩) L cn, .slice am M cm] 25))) := ⟨InsBox.new w x _ _ 25, fbelow_box w _⟩
      go_enter Try.func10, Try.ntmps10
      go_upto_region 3 with (first | (go_at_call 11; (with_reducible refine (HW.out _ (HX.out.next HS0.out.below)).mono ?_); rintro e w1 ⟨rfl, hb1⟩; have HS1 := Lib.hid (HS0.out.next hb1); obtain ⟨c0, c1, c2, c3, c4, c5, c6, c7⟩ := HS1.out.box.cells) | (go_at_call 13; (with_reducible refine (HSH.out _).mono ?_); rintro e w2 ⟨rfl, hb2⟩; have HS2 := Lib.hid (HS1.out.next hb2); clear c0 c1 c2 c3 c4 c5 c6 c7))
      clear HS0 HS1 HW HSH hb1 hb2
      have HA0 := Lib.hid (alS_start HS2.out)
      go_wp2_with (fail)
      generalize w2.heap.size = B1 at *
      go_loopw [4, 5, 6] (fun o ft i wr => ∃ (k : Nat) (vp : Value) (us : List Value), k ≤ L ∧ i = .int .i64 (k : Int) ∧ ft = .bool (fitsB x k) ∧ AlS w x (.slice (some ⟨b, off, none⟩) L cn) (.slice am M cm) B1 o (k) vp us (k) wr) (fun _ _ i _ => L - (intOf i).toNat)
      case atStart => exact ⟨0, _, _, Nat.zero_le _, rfl, rfl, HA0.out⟩
      case round =>
        obtain ⟨k, vp, us, hk, rfl, rfl, hS⟩ := hrel
        have HS := Lib.hid hS
        obtain ⟨c0, c1, c2, c3, c4, c5, c6, c7⟩ := hS.box.cells
        clear hS HA0 HS2
        by_cases hlt : k < L
        · have hki : (k : Int) < (L : Int) := by omega
          have hml : k + 1 ≤ maxLen := by unfold maxLen; omega
          have hml2 : (k + 1) * 8 ≤ 140737488355328 := by omega
          have hs1 := HS.out.box.lt
          by_cases hk0 : k = 0
          · subst hk0
            have hE := Lib.hid (show Feas.lone 1 = Feas.lone 0 from rfl)
            go_wp2_with (at_builtin; refine wpList_append_own _ rfl _ _ 23 rfl (w.heap.size + 1) 3 i0 (.int .i64 0) 1 8 Try.underlying23 HI.out hz0 hz1 hz2 rfl (by decide) _ _ _ rfl ((HS.out.next (fbelow_box wr _)).all) ⟨wr.heap.size, 0, none⟩ 1 1 [.int .i64 (((0 : Nat) : Int))] rfl rfl (cells_one wr _ _) (by simp [Value.oneCell']) hml hml2 (by simp; omega) ?_; intro v' w5 hown' hgrow _; have HS5 : Hid (AlS w x (.slice (some ⟨b, off, none⟩) L cn) (.slice am M cm) B1 v' (0 + 1) vp us (0) w5) := (HS.out.next (fbelow_box wr _)).grow (Nat.le_refl _) hgrow (by rw [tourN, List.map_append]; exact hown'); clear hown' hgrow)
            go_roundw
            case rel => exact ⟨1, vp, us, by omega, by go_num, by rw [show fitsB x 1 = fitsB x 0 by simp [fitsB]], HS5.out.one⟩
            case measure => simp [intOf]; omega
          · have hk1 : 0 < k := by omega
            have hk1i : (0 : Int) < (k : Int) := by omega
            have hlk := lone_length k
            obtain ⟨nl, hnl⟩ : ∃ nl, (Feas.lone k).length = nl := ⟨_, rfl⟩
            have HNL := Lib.hid hnl
            have hnb : nl + 1 ≤ 1000 := by omega
            have hml3 : nl + 1 ≤ maxLen := by unfold maxLen; omega
            have hml4 : (nl + 1) * 24 ≤ 140737488355328 := by omega
            clear hlk hnl hk0
            go_upto_region 12 with (first
              | (at_builtin; refine wpList_append_own _ rfl _ _ 23 rfl (w.heap.size + 1) 3 i0 (.int .i64 0) 1 8 Try.underlying23 HI.out hz0 hz1 hz2 rfl (by decide) _ _ _ rfl ((HS.out.next (fbelow_box wr _)).all) ⟨wr.heap.size, 0, none⟩ 1 1 [.int .i64 (k : Int)] rfl rfl (cells_one wr _ _) (by simp [Value.oneCell']) hml hml2 (by simp; omega) ?_; intro v' w5 hown' hgrow _; have HS5 : Hid (AlS w x (.slice (some ⟨b, off, none⟩) L cn) (.slice am M cm) B1 v' (k + 1) vp us (k) w5) := (HS.out.next (fbelow_box wr _)).grow (Nat.le_refl _) hgrow (by rw [tourN, List.map_append]; exact hown'); have hs5 := HS5.out.box.lt; have hb5 := HS5.out.pb.cell; clear hown' hgrow)
              | (at_builtin; refine wpList_append_own _ rfl _ _ 26 rfl (w.heap.size + 1) 23 j0 (.slice none 0 0) 1 24 Try.underlying26 HJ.out y0 y1 y2 rfl (by decide) vp nl us rfl (by rw [← HNL.out]; exact (HS5.out.next (below_two w5 _ _)).rts) ⟨w5.heap.size + 1, 0, none⟩ 1 1 [.slice (some ⟨w5.heap.size, 0, none⟩) 1 1] rfl rfl (by have h := cells_one (w5.alloc (.cells #[.int .i64 (k : Int)] 3)) (.slice (some ⟨w5.heap.size, 0, none⟩) 1 1) 23; rw [World.size_alloc] at h; exact h) (by simp [Value.oneCell']) hml3 hml4 (by simp; omega) ?_; intro v'' w6 hown6 hgrow6 _; obtain ⟨av, cv, rfl⟩ := owns_dat hown6; rw [← HNL.out] at hown6; have HS6 := Lib.hid (HS5.out.add hk1 hown6 hgrow6); have hpb6 := (HS5.out.next (below_two w5 (.cells #[.int .i64 (k : Int)] 3) (.cells #[.slice (some ⟨w5.heap.size, 0, none⟩) 1 1] 23))).pb_next hgrow6; rw [HNL.out] at HS6; have hzc := Boxed.cell hpb6; have hzf := Boxed.frozen hpb6; clear hown6 hgrow6 hpb6))
            obtain ⟨V, hV⟩ : ∃ V, V = w6.setCell ⟨B1, 0, none⟩ (.slice av (nl + 1) cv) := ⟨_, rfl⟩
            rw [← hV] at HS6 ⊢
            clear hV HS HS5 hzc hzf hb5 hs5 c0 c1 c2 c3 c4 c5 c6 c7
            have HDN := Lib.hid (HNO.out k (by have := HL.out; omega))
            have hdd := (HDN.out.below HS6.out.below hbw).demand
            have q6 := HS6.out.box.c 6
            have q4 := HS6.out.box.c 4
            have HFB : Hid (fitsB x (k + 1) = (fitsB x k && decide ((at' x k).demand ≤ x.cap))) := by unfold Hid; rw [fitsB, decide_eq_false (by omega), Bool.false_or]
            generalize (at' x k).demand = dm at *
            cases hft : fitsB x k with
            | true =>
              rw [hft, Bool.true_and] at HFB
              by_cases hdc : dm ≤ x.cap
              · rw [decide_eq_true hdc] at HFB
                clear hft
                go_quiet (fail)
                go_wp2
                go_roundw
                case rel => exact ⟨k + 1, _, _, by omega, by go_num, by rw [HFB.out], HS6.out.drewN _⟩
                case measure => simp [intOf]; omega
              · rw [decide_eq_false hdc] at HFB
                clear hft
                go_quiet (fail)
                go_wp2
                go_roundw
                case rel => exact ⟨k + 1, _, _, by omega, by go_num, by rw [HFB.out], HS6.out.drewN _⟩
                case measure => simp [intOf]; omega
            | false =>
              rw [hft, Bool.false_and] at HFB
              clear hft
              go_quiet (fail)
              go_wp2
              go_roundw
              case rel => exact ⟨k + 1, _, _, by omega, by go_num, by rw [HFB.out], HS6.out.drewN _⟩
              case measure => simp [intOf]; omega
        · obtain rfl : k = L := by omega
          have HRV : Hid (HasRts wr vp (Feas.lone k)) := rts_of_owns HS.out.rts HS.out.vals
          have hlo1 := lone_length k
          obtain ⟨pa, pc, rfl⟩ := owns_dat HS.out.rts
          obtain ⟨oa, oc, rfl⟩ := owns_dat HS.out.all
          obtain ⟨nl, hnl⟩ : ∃ nl, (Feas.lone k).length = nl := ⟨_, rfl⟩
          have HNL := Lib.hid hnl
          rw [hnl] at HS HRV hlo1
          have HLO1 := Lib.hid hlo1
          clear hll hnl hlo1
          have hpc := HS.out.pb.cell
          have HTI : Hid (HasInts wr (.slice oa k oc) (tourN k)) := by
            have h := HS.out.all
            exact hasInts_of_owns (by rw [tour_length]; exact h)
          by_cases k1 : x.kind = 1
          · have HFT2 := Lib.hid (HFT.out k1)
            have HRO := Lib.hid (rts_one HTI.out)
            have kb : (x.kind == 1) = true := beq_iff_eq.2 k1
            have hbl := Lib.hid (HS.out.below.alloc HS.out.below.size (.cells #[.slice oa k oc] 23))
            clear k1 HFT HCK HFE
            go_wp2_with (go_at_call 19; (with_reducible refine (HFT2.out _ _ (HX.out.next hbl.out) HRO.out).mono ?_); rintro e w5 ⟨rfl, hb5⟩)
            go_ret
            exact ⟨rfl, hbl.out.trans (hb5.mono hbl.out.size)⟩
          · have kb : (x.kind == 1) = false := beq_eq_false_iff_ne.2 k1
            have HCO := Lib.hid fun p hp => lone_codes (w := p) HWL.out k1 hp
            have HCV := Lib.hid fun h2 => lone_cvrp HWL.out h2
            have HPD := Lib.hid fun h4 hn => lone_pdptw HWL.out h4 hn
            rw [HL.out] at HCO HCV HPD
            rw [HNL.out] at HCV
            go_upto_region 16 with (go_at_call 14; (with_reducible refine (HCK.out _ _ (HX.out.next HS.out.below) HRV.out).mono ?_); rintro e w5 ⟨v5, rfl, hv5, hb5⟩; have HS5 := Lib.hid (HS.out.next hb5); have HW5 := Lib.hid hv5; obtain ⟨la, lc, rfl, -⟩ := hv5.dat; have HRV5 := Lib.hid (HRV.out.next hb5); clear hv5 hb5)
            clear c0 c1 c2 c3 c4 c5 c6 c7 hpc
            have hZ0 := checkW_len x (Feas.lone k)
            rw [HL.out, HNL.out] at hZ0
            generalize checkW x (Feas.lone k) = K at *
            obtain ⟨Z, hZ⟩ : ∃ Z, K.length = Z := ⟨_, rfl⟩
            have hZ1 : Z ≤ 1000000 := by have := HLO1.out; omega
            clear hZ0
            have HZ := Lib.hid hZ
            rw [hZ] at HW5 ⊢
            clear hZ HCK HFT HRV
            go_wp2_with (fail)
            go_loopw [8] (fun i w6 => w5 = w6 ∧ ∃ m : Nat, m ≤ Z ∧ i = .int .i64 (m : Int)) (fun i _ => Z - (intOf i).toNat)
            case atStart => exact ⟨rfl, 0, Nat.zero_le _, rfl⟩
            case round =>
              obtain ⟨rfl, m, hm, rfl⟩ := hrel
              obtain ⟨c0, c1, c2, c3, c4, c5, c6, c7⟩ := HS5.out.box.cells
              have hpc := HS5.out.pb.cell
              by_cases hlt2 : m < Z
              · obtain ⟨⟨c, r2, n2⟩, hp⟩ : ∃ p, K[m]? = some p := ⟨_, List.getElem?_eq_getElem (by have := HZ.out; omega)⟩
                have hmi : (m : Int) < (Z : Int) := by omega
                obtain ⟨b2, o2, l2, el, hbl, e0, e1, e2⟩ := HW5.out.got hp
                rw [HZ.out] at el
                injection el with h1 h2 h3
                subst h1
                subst h3
                have hco := HCO.out _ (List.mem_of_getElem? hp)
                simp only at hco e0 e1 e2
                have g3 : decide (c ≤ 3) = false := decide_eq_false (by omega)
                have g8 : (c == 8) = false := beq_eq_false_iff_ne.2 (by omega)
                by_cases g7 : c = 7
                · have f7 : (c == 7) = true := beq_iff_eq.2 g7
                  have f4 : (x.kind != 4) = false := by rw [hco.2.2 g7]; rfl
                  clear hp h2 hbl hco g7
                  go_wp2
                  go_roundw
                  case rel => exact ⟨trivial, m + 1, by omega, by go_num⟩
                  case measure => simp [intOf]; omega
                · have f7 : (c == 7) = false := beq_eq_false_iff_ne.2 g7
                  clear hp h2 hbl hco g7
                  go_wp2
                  go_roundw
                  case rel => exact ⟨trivial, m + 1, by omega, by go_num⟩
                  case measure => simp [intOf]; omega
              · obtain rfl : m = Z := by omega
                by_cases k2 : x.kind = 2
                · have kb2 : (x.kind == 2) = true := beq_iff_eq.2 k2
                  have hcv := HCV.out k2
                  have HRV6 := Lib.hid (HRV5.out)
                  generalize feasB x (Feas.lone k) = fb at *
                  cases hft : fitsB x k with
                  | false =>
                    rw [hft, Bool.false_and] at hcv
                    subst hcv
                    clear k1 k2 hft
                    go_wp2_with (go_at_call 19; (with_reducible refine (HFE.out _ _ (HX.out.next HS5.out.below) HRV6.out).mono ?_); rintro e w7 ⟨rfl, hb7⟩)
                    go_ret
                    exact ⟨rfl, HS5.out.below.trans (hb7.mono HS5.out.below.size)⟩
                  | true =>
                    rw [hft, Bool.true_and] at hcv
                    by_cases hf0 : x.fleet = 0
                    · rw [decide_eq_true hf0, Bool.true_or] at hcv
                      subst hcv
                      have f0 : (x.fleet == 0) = true := beq_iff_eq.2 hf0
                      clear k1 k2 hft hf0
                      go_wp2_with (go_at_call 19; (with_reducible refine (HFE.out _ _ (HX.out.next HS5.out.below) HRV6.out).mono ?_); rintro e w7 ⟨rfl, hb7⟩; have HS7 := Lib.hid (HS5.out.next hb7); clear c0 c1 c2 c3 c4 c5 c6 c7 hpc; obtain ⟨c0, c1, c2, c3, c4, c5, c6, c7⟩ := HS7.out.box.cells; have hpc := HS7.out.pb.cell)
                      go_ret
                      exact ⟨rfl, HS7.out.below⟩
                    · rw [decide_eq_false hf0, Bool.false_or] at hcv
                      have f0 : (x.fleet == 0) = false := beq_eq_false_iff_ne.2 hf0
                      by_cases hf1 : (nl : Int) ≤ x.fleet
                      · rw [decide_eq_true hf1] at hcv
                        subst hcv
                        clear k1 k2 hft hf0
                        go_wp2_with (go_at_call 19; (with_reducible refine (HFE.out _ _ (HX.out.next HS5.out.below) HRV6.out).mono ?_); rintro e w7 ⟨rfl, hb7⟩; have HS7 := Lib.hid (HS5.out.next hb7); clear c0 c1 c2 c3 c4 c5 c6 c7 hpc; obtain ⟨c0, c1, c2, c3, c4, c5, c6, c7⟩ := HS7.out.box.cells; have hpc := HS7.out.pb.cell)
                        go_ret
                        exact ⟨rfl, HS7.out.below⟩
                      · rw [decide_eq_false hf1] at hcv
                        subst hcv
                        clear k1 k2 hft hf0
                        go_wp2_with (go_at_call 19; (with_reducible refine (HFE.out _ _ (HX.out.next HS5.out.below) HRV6.out).mono ?_); rintro e w7 ⟨rfl, hb7⟩; have HS7 := Lib.hid (HS5.out.next hb7); clear c0 c1 c2 c3 c4 c5 c6 c7 hpc; obtain ⟨c0, c1, c2, c3, c4, c5, c6, c7⟩ := HS7.out.box.cells; have hpc := HS7.out.pb.cell)
                        go_ret
                        exact ⟨cret_is (by have e : decide ((nl : Int) ≤ x.fleet) = false := decide_eq_false (by omega); rw [e]; rfl), HS7.out.below⟩
                · have kb2 : (x.kind == 2) = false := beq_eq_false_iff_ne.2 k2
                  by_cases k4 : x.kind = 4
                  · have kb4 : (x.kind != 4) = false := by rw [k4]; rfl
                    have HS6 := Lib.hid HS5.out.below
                    have hpd := HPD.out k4
                    by_cases hk2 : 2 ≤ k
                    · have hz0 : 0 < m := by
                        have h := List.length_pos_iff.2 (hpd hk2)
                        rw [HZ.out] at h; exact h
                      have hz1 : (0 : Int) < (m : Int) := by omega
                      clear k1 k2 k4 hpd HPD HCV HCO
                      go_wp2
                      go_ret
                      exact ⟨rfl, HS6.out⟩
                    · obtain rfl : nl = 0 := by have := HLO1.out; omega
                      clear k1 k2 k4 hpd HPD HCV HCO
                      by_cases hz0 : m = 0
                      · subst hz0
                        go_wp2
                        go_ret
                        exact ⟨rfl, HS6.out⟩
                      · have hz1 : (0 : Int) < (m : Int) := by omega
                        go_wp2
                        go_ret
                        exact ⟨rfl, HS6.out⟩
                  · have kb4 : (x.kind != 4) = true := bne_iff_ne.2 k4
                    have HS6 := Lib.hid HS5.out.below
                    clear k1 k2 k4 HPD HCV HCO
                    go_wp2
                    go_ret
                    exact ⟨rfl, HS6.out⟩
end Go.Proofs
