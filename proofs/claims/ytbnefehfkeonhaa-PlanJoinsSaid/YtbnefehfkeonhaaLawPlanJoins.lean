/- The law PlanJoins of layer 9, as a contract: it answers true at every two plans, and every number. No condition. -/
import Derived.Test.YtbnefehfkeonhaaPlanLaw
import Derived.Test.YtbnefehfkeonhaaPlanBoth
import Derived.Deep.CutRange
import Derived.Deep.DeepCutAuto
namespace Go.Proofs
open Go.RowKit Go.Plans
attribute [local go_sem] Oper.semAt_some
theorem joins_end {w W W' : World} {A L M bb : Nat} {a : Option Addr} {c : Nat} {us vs : List Value} {rr ss : Rts} (hO : W.ownsRow A 42 1 (.slice a (L + M) c) (L + M) (us ++ vs)) (hB : Boxed W bb 24 (.slice none 0 0))
    (hR : ReadAs w (us ++ vs) (rr ++ ss)) (hb : Below w.heap.size w W') (hW : W' = W.setCell ⟨bb, 0, none⟩ (.slice a (L + M) c)) (h1 : rr.length = L) (h2 : ss.length = M) :
    BoxAt W' bb (.slice a (L + M) c) ∧ HasRts W' (.slice a (L + M) c) (rr ++ ss) := by
  have h3 := row_set (y := .slice a (L + M) c) hO hB
  have h4 := hB.set (.slice a (L + M) c)
  rw [← hW] at h3 h4
  exact ⟨⟨h4.cell, h4.lt⟩, rts_of_read (mm := rr ++ ss) (by rw [List.length_append, h1, h2]; exact h3) hR hb⟩
set_option maxRecDepth 100000 in
set_option maxHeartbeats 4000000 in
theorem Try.PlanJoins_long (v u : Value) (rr ss : Rts) (st : Int) (w : World) (hv : HasRts w v rr) (hu : HasRts w u ss) (h : longR rr = true ∨ longR rr = false ∧ longR ss = true) :
    Calls Try.prog 7 #[planV v, planV u, .int .i64 st] w fun e w' => e = .returned (.bool true) ∧ Below w.heap.size w w' := by
  have HLX := Lib.hid (fun W h => Try.P8 v rr W h)
  have HLY := Lib.hid (fun W h => Try.P8 u ss W h)
  have HSH := Lib.hid (fun W => Try.P9 W)
  have HB := Lib.hid (PB.two hv hu)
  obtain ⟨an, cn, rfl⟩ := hv.len
  obtain ⟨am, cm, rfl⟩ := hu.len
  unfold planV
  clear hv hu
  rcases h with hl | ⟨hl, hl2⟩
  · rw [hl] at HLX
    clear hl
    generalize rr.length = L at *
    generalize ss.length = M at *
    go_enter Try.func7, Try.ntmps7
    go_wp2_with (fail)
    (with_reducible refine (HLX.out _ HB.out.iv).mono ?_)
    rintro e w1 ⟨rfl, hb1⟩
    have B1 := Lib.hid (HB.out.next hb1)
    clear hb1 HLX HB
    go_wp2_with (fail)
    (with_reducible refine (HSH.out _).mono ?_)
    rintro e w2 ⟨rfl, hb2⟩
    have B2 := Lib.hid (B1.out.next hb2)
    go_wp2
    go_ret
    exact ⟨rfl, B2.out.below⟩
  · rw [hl] at HLX
    rw [hl2] at HLY
    clear hl hl2
    generalize rr.length = L at *
    generalize ss.length = M at *
    go_enter Try.func7, Try.ntmps7
    go_wp2_with (fail)
    (with_reducible refine (HLX.out _ HB.out.iv).mono ?_)
    rintro e w1 ⟨rfl, hb1⟩
    have B1 := Lib.hid (HB.out.next hb1)
    have q0 := B1.out.ba.1
    have q1 := B1.out.bb.1
    clear hb1 HLX HB
    go_wp2_with (fail)
    (with_reducible refine (HLY.out _ B1.out.iu).mono ?_)
    rintro e w2 ⟨rfl, hb2⟩
    have B2 := Lib.hid (B1.out.next hb2)
    clear hb2 HLY B1 q0 q1
    go_wp2_with (fail)
    (with_reducible refine (HSH.out _).mono ?_)
    rintro e w3 ⟨rfl, hb3⟩
    have B3 := Lib.hid (B2.out.next hb3)
    go_wp2
    go_ret
    exact ⟨rfl, B3.out.below⟩
set_option maxRecDepth 100000 in
set_option maxHeartbeats 8000000 in
theorem Try.PlanJoins_calls (v u : Value) (rr ss : Rts) (st : Int) (w : World) (hv : HasRts w v rr) (hu : HasRts w u ss) (hl : longR rr = false) (hl2 : longR ss = false) :
    Calls Try.prog 7 #[planV v, planV u, .int .i64 st] w fun e w' => e = .returned (.bool true) ∧ Below w.heap.size w w' := by
  have HLX := Lib.hid (fun W h => Try.P8 v rr W h)
  have HLY := Lib.hid (fun W h => Try.P8 u ss W h)
  rw [hl] at HLX
  rw [hl2] at HLY
  have HSH := Lib.hid (fun W => Try.P9 W)
  have HB := Lib.hid (PB.two hv hu)
  have hf := Fit.of hl
  have hf2 := Fit.of hl2
  have HF := Lib.hid hf
  have HF2 := Lib.hid hf2
  have hL4 := hf.len
  have hM4 := hf2.len
  have HV := Lib.hid hv
  have HU := Lib.hid hu
  obtain ⟨an, cn, rfl⟩ := hv.len
  obtain ⟨am, cm, rfl⟩ := hu.len
  unfold planV
  obtain ⟨L, hLe⟩ : ∃ L, rr.length = L := ⟨_, rfl⟩
  obtain ⟨M, hMe⟩ : ∃ M, ss.length = M := ⟨_, rfl⟩
  rw [hLe, hMe] at HB
  rw [hLe] at HLX HV hL4 ⊢
  rw [hMe] at HLY HU hM4 ⊢
  have HLe := Lib.hid hLe
  have HMe := Lib.hid hMe
  clear hv hu hl hl2 hf hf2 hLe hMe
  go_enter Try.func7, Try.ntmps7
  go_wp2_with (fail)
  (with_reducible refine (HLX.out _ HB.out.iv).mono ?_)
  rintro e w1 ⟨rfl, hb1⟩
  have B1 := Lib.hid (HB.out.next hb1)
  have q0 := B1.out.ba.1
  have q1 := B1.out.bb.1
  clear hb1 HLX HB
  go_wp2_with (fail)
  (with_reducible refine (HLY.out _ B1.out.iu).mono ?_)
  rintro e w2 ⟨rfl, hb2⟩
  have B2 := Lib.hid (B1.out.next hb2)
  clear hb2 HLY B1 q0 q1
  go_wp2_with (fail)
  (with_reducible refine (HSH.out _).mono ?_)
  rintro e w3 ⟨rfl, hb3⟩
  have B3 := Lib.hid (B2.out.next hb3)
  clear hb3 HSH B2
  obtain ⟨us, hus, hus1, husr, husn⟩ := rts_news HV.out
  obtain ⟨vs, hvs, hvs1, hvsr, hvsn⟩ := rts_news HU.out
  obtain ⟨i0, hi, hz0, hz1, hz2⟩ := info_parts Try.info42
  have HI0 := Lib.hid hi
  have HR := Lib.hid (husr.append hvsr)
  replace husn := Lib.hid husn
  replace hvsn := Lib.hid hvsn
  replace hus := Lib.hid hus
  replace hvs := Lib.hid hvs
  clear hi husr hvsr
  go_upto_region 3 with (fail)
  go_cut [7] from 32 to 39 (fun s7 wx => ∃ (bb : Nat) (a : Option Addr) (c : Nat), s7 = .pointer (some ⟨bb, 0, none⟩) ∧ PB w w.heap.size (w.heap.size + 1) bb (.slice an L cn) rr (.slice am M cm) ss (.slice a (L + M) c) (rr ++ ss) wx)
  case first =>
    refine wp_region_held_drew (S := (fun W => W.cell? ⟨w.heap.size, 0, none⟩ = some (.slice an L cn) ∧ W.cell? ⟨w.heap.size + 1, 0, none⟩ = some (.slice am M cm) ∧ Below w3.heap.size w3 W)) (by kernel_rfl) ⟨(B3.out.drew).ba.1, (B3.out.drew).bb.1, (Below.refl _ w3).drew⟩ (fun hHeld0 => ?_)
    have PP := Lib.hid B3.out
    have belW4 : Below w3.heap.size w3 w3.drew := (Below.refl _ w3).drew
    clear hHeld0 B3
    generalize w3.drew = W4 at *
    refine wpAnyH_take (i := 1) (v := ?_) rfl (by kernel_rfl) (by kernel_rfl) (by kernel_rfl) (fun _ _ _ h => h) (Or.inl ⟨by kernel_rfl, ?_⟩) ⟨(PP.out.ba.next belW4).1, (PP.out.bb.next belW4).1, belW4⟩ ?_
    rotate_left
    · (intro w0 hSw; (try dsimp only at hSw); obtain ⟨c0, c1, hLB⟩ := hSw; go_simp; try with_reducible rfl)
    try dsimp only [List.getElem_toArray, List.getElem_cons_succ, List.getElem_cons_zero, Act.put]
    try simp only [List.setIfInBounds_toArray, List.set_cons_zero, List.set_cons_succ]
    refine wpAnyH_take (i := 2) (v := ?_) rfl (by kernel_rfl) (by kernel_rfl) (by kernel_rfl) (fun _ _ _ h => h) (Or.inl ⟨by kernel_rfl, ?_⟩) ⟨(PP.out.ba.next belW4).1, (PP.out.bb.next belW4).1, belW4⟩ ?_
    rotate_left
    · (intro w0 hSw; (try dsimp only at hSw); obtain ⟨c0, c1, hLB⟩ := hSw; go_simp; try with_reducible rfl)
    try dsimp only [List.getElem_toArray, List.getElem_cons_succ, List.getElem_cons_zero, Act.put]
    try simp only [List.setIfInBounds_toArray, List.set_cons_zero, List.set_cons_succ]
    refine wpAnyH_take (i := 4) (v := ?_) rfl (by kernel_rfl) (by kernel_rfl) (by kernel_rfl) (fun _ _ _ h => h) (Or.inl ⟨by kernel_rfl, ?_⟩) ⟨(PP.out.ba.next belW4).1, (PP.out.bb.next belW4).1, belW4⟩ ?_
    rotate_left
    · (intro w0 hSw; (try dsimp only at hSw); obtain ⟨c0, c1, hLB⟩ := hSw; go_simp; try with_reducible rfl)
    try dsimp only [List.getElem_toArray, List.getElem_cons_succ, List.getElem_cons_zero, Act.put]
    try simp only [List.setIfInBounds_toArray, List.set_cons_zero, List.set_cons_succ]
    refine wpAnyH_take (i := 5) (v := ?_) rfl (by kernel_rfl) (by kernel_rfl) (by kernel_rfl) (fun _ _ _ h => h) (Or.inl ⟨by kernel_rfl, ?_⟩) ⟨(PP.out.ba.next belW4).1, (PP.out.bb.next belW4).1, belW4⟩ ?_
    rotate_left
    · (intro w0 hSw; (try dsimp only at hSw); obtain ⟨c0, c1, hLB⟩ := hSw; go_simp; try with_reducible rfl)
    try dsimp only [List.getElem_toArray, List.getElem_cons_succ, List.getElem_cons_zero, Act.put]
    try simp only [List.setIfInBounds_toArray, List.set_cons_zero, List.set_cons_succ]
    refine wpAnyH_ready (rs := [0, 8]) (by kernel_rfl) (by simp) (AllReadyH.cons rfl (fun K hK => ?_) (AllReadyH.cons rfl (fun K hK => ?_) AllReadyH.nil))
    · go_simp
      obtain ⟨X1, hX1⟩ : ∃ X, X = W4.alloc (Obj.cells #[] 42) := ⟨_, rfl⟩
      have belX1 : Below w3.heap.size w3 X1 := by rw [hX1]; exact belW4.alloc belW4.size _
      have hOX1 : X1.ownsRow w3.heap.size 42 1 (.slice (some ⟨W4.heap.size, 0, none⟩) 0 0) 0 [] := by rw [hX1]; exact rowS (World.alloc_heap_new _ _) belW4.size
      rw [← hX1]
      clear hX1
      refine hK.out _ _ ⟨(PP.out.ba.next belX1).1, (PP.out.bb.next belX1).1, belX1⟩ (fun _ => ?_)
      clear hK K
      try dsimp only [List.getElem_toArray, List.getElem_cons_succ, List.getElem_cons_zero, Act.put]
      try simp only [List.setIfInBounds_toArray, List.set_cons_zero, List.set_cons_succ]
      refine wpAnyH_ready (rs := [3, 8]) (by kernel_rfl) (by simp) (AllReadyH.cons rfl (fun K hK => ?_) (AllReadyH.cons rfl (fun K hK => ?_) AllReadyH.nil))
      · refine step_append_vals rfl (.tmp 32) (.tmp 34) 22 rfl w3.heap.size 42 i0 (.slice none 0 0) 1 24 Try.underlying22 HI0.out hz0 hz1 hz2 rfl (by decide) (.slice (some ⟨W4.heap.size, 0, none⟩) 0 0) 0 [] rfl hOX1 an L cn us rfl (by rw [hus.out, Nat.mul_one]) (husn.out _ (PP.out.below.trans (belX1.mono PP.out.below.size))) hus1 (by unfold maxLen; omega) (by omega) belX1.size ?_
        intro vX2 X2 hOX2 hgX2
        rw [Nat.zero_add, List.nil_append] at hOX2
        have belX2 : Below w3.heap.size w3 X2 := row_below belX1 belX1.size hOX1 hgX2
        obtain ⟨aX2, cX2, hvX2⟩ := owns_slice hOX2
        subst hvX2
        clear hgX2
        refine hK.out _ _ ⟨(PP.out.ba.next belX2).1, (PP.out.bb.next belX2).1, belX2⟩ (fun _ => ?_)
        clear hK K
        try dsimp only [List.getElem_toArray, List.getElem_cons_succ, List.getElem_cons_zero, Act.put]
        try simp only [List.setIfInBounds_toArray, List.set_cons_zero, List.set_cons_succ]
        refine wpAnyH_ready (rs := [6, 8]) (by kernel_rfl) (by simp) (AllReadyH.cons rfl (fun K hK => ?_) (AllReadyH.cons rfl (fun K hK => ?_) AllReadyH.nil))
        · refine step_append_vals rfl (.tmp 35) (.tmp 37) 22 rfl w3.heap.size 42 i0 (.slice none 0 0) 1 24 Try.underlying22 HI0.out hz0 hz1 hz2 rfl (by decide) (.slice aX2 L cX2) L us rfl hOX2 am M cm vs rfl (by rw [hvs.out, Nat.mul_one]) (hvsn.out _ (PP.out.below.trans (belX2.mono PP.out.below.size))) hvs1 (by unfold maxLen; omega) (by omega) belX2.size ?_
          intro vX3 X3 hOX3 hgX3
          have belX3 : Below w3.heap.size w3 X3 := row_below belX2 belX2.size hOX2 hgX3
          obtain ⟨aX3, cX3, hvX3⟩ := owns_slice hOX3
          subst hvX3
          clear hgX3
          refine hK.out _ _ ⟨(PP.out.ba.next belX3).1, (PP.out.bb.next belX3).1, belX3⟩ (fun _ => ?_)
          clear hK K
          try dsimp only [List.getElem_toArray, List.getElem_cons_succ, List.getElem_cons_zero, Act.put]
          try simp only [List.setIfInBounds_toArray, List.set_cons_zero, List.set_cons_succ]
          refine wpAnyH_take (i := 7) (v := ?_) rfl (by kernel_rfl) (by kernel_rfl) (by kernel_rfl) (fun _ _ _ h => h) (Or.inl ⟨by kernel_rfl, ?_⟩) ⟨(PP.out.ba.next belX3).1, (PP.out.bb.next belX3).1, belX3⟩ ?_
          rotate_left
          · (intro w0 hSw; (try dsimp only at hSw); obtain ⟨c0, c1, hLB⟩ := hSw; go_simp; try with_reducible rfl)
          try dsimp only [List.getElem_toArray, List.getElem_cons_succ, List.getElem_cons_zero, Act.put]
          try simp only [List.setIfInBounds_toArray, List.set_cons_zero, List.set_cons_succ]
          refine wpAnyH_ready (rs := [8]) (by kernel_rfl) (by simp) (AllReadyH.cons rfl (fun K hK => ?_) AllReadyH.nil)
          go_simp
          obtain ⟨X4, hX4⟩ : ∃ X, X = X3.alloc (Obj.cells #[.slice none 0 0] 24) := ⟨_, rfl⟩
          have belX4 : Below w3.heap.size w3 X4 := by rw [hX4]; exact belX3.alloc belX3.size _
          obtain ⟨bb, hbb⟩ : ∃ bb, bb = X3.heap.size := ⟨_, rfl⟩
          have hbbw : w3.heap.size ≤ bb := by rw [hbb]; exact belX3.size
          have hBX4 : Boxed X4 bb 24 (.slice none 0 0) := by rw [hX4, hbb]; exact Boxed.new _ _ _
          have hOX4 := hOX3.alloc (.cells #[.slice none 0 0] 24)
          rw [← hX4] at hOX4
          rw [← hX4, ← hbb]
          clear hX4 hbb
          refine hK.out _ _ ⟨(PP.out.ba.next belX4).1, (PP.out.bb.next belX4).1, belX4⟩ (fun _ => ?_)
          clear hK K
          try dsimp only [List.getElem_toArray, List.getElem_cons_succ, List.getElem_cons_zero, Act.put]
          try simp only [List.setIfInBounds_toArray, List.set_cons_zero, List.set_cons_succ]
          refine wpAnyH_ready (rs := [9]) (by kernel_rfl) (by simp) (AllReadyH.cons rfl (fun K hK => ?_) AllReadyH.nil)
          have hcb := hBX4.cell
          have hfb := hBX4.frozen
          go_simp
          obtain ⟨X5, hX5⟩ : ∃ X, X = X4.setCell ⟨bb, 0, none⟩ (.slice aX3 (L + M) cX3) := ⟨_, rfl⟩
          have belX5 : Below w3.heap.size w3 X5 := by rw [hX5]; exact belX4.setCell (p := ⟨bb, 0, none⟩) hbbw _
          have hfin := joins_end (hO := hOX4) (hB := hBX4) HR.out (PP.out.below.trans (belX5.mono PP.out.below.size)) hX5 HLe.out HMe.out
          rw [← hX5]
          clear hX5
          refine hK.out _ _ ⟨(PP.out.ba.next belX5).1, (PP.out.bb.next belX5).1, belX5⟩ (fun _ => ?_)
          clear hK K
          refine wpAnyH_done (by kernel_rfl) ?_ _
          try dsimp only [List.getElem_toArray, List.getElem_cons_succ, List.getElem_cons_zero, Act.put]
          try simp only [List.setIfInBounds_toArray, List.set_cons_zero, List.set_cons_succ]
          have hp := PP.out.next belX5
          go_wp2_with (fail)
          go_meet
          exact ⟨bb, aX3, cX3, rfl, ⟨hp.ba, hp.bb, hfin.1, hp.iv, hp.iu, hfin.2, hp.below⟩⟩
        · go_simp
          obtain ⟨X6, hX6⟩ : ∃ X, X = X2.alloc (Obj.cells #[.slice none 0 0] 24) := ⟨_, rfl⟩
          have belX6 : Below w3.heap.size w3 X6 := by rw [hX6]; exact belX2.alloc belX2.size _
          obtain ⟨bb, hbb⟩ : ∃ bb, bb = X2.heap.size := ⟨_, rfl⟩
          have hbbw : w3.heap.size ≤ bb := by rw [hbb]; exact belX2.size
          have hBX6 : Boxed X6 bb 24 (.slice none 0 0) := by rw [hX6, hbb]; exact Boxed.new _ _ _
          have hOX6 := hOX2.alloc (.cells #[.slice none 0 0] 24)
          rw [← hX6] at hOX6
          rw [← hX6, ← hbb]
          clear hX6 hbb
          refine hK.out _ _ ⟨(PP.out.ba.next belX6).1, (PP.out.bb.next belX6).1, belX6⟩ (fun _ => ?_)
          clear hK K
          try dsimp only [List.getElem_toArray, List.getElem_cons_succ, List.getElem_cons_zero, Act.put]
          try simp only [List.setIfInBounds_toArray, List.set_cons_zero, List.set_cons_succ]
          refine wpAnyH_ready (rs := [6]) (by kernel_rfl) (by simp) (AllReadyH.cons rfl (fun K hK => ?_) AllReadyH.nil)
          refine step_append_vals rfl (.tmp 35) (.tmp 37) 22 rfl w3.heap.size 42 i0 (.slice none 0 0) 1 24 Try.underlying22 HI0.out hz0 hz1 hz2 rfl (by decide) (.slice aX2 L cX2) L us rfl hOX6 am M cm vs rfl (by rw [hvs.out, Nat.mul_one]) (hvsn.out _ (PP.out.below.trans (belX6.mono PP.out.below.size))) hvs1 (by unfold maxLen; omega) (by omega) belX6.size ?_
          intro vX7 X7 hOX7 hgX7
          have belX7 : Below w3.heap.size w3 X7 := row_below belX6 belX6.size hOX6 hgX7
          have hBX7 : Boxed X7 bb 24 (.slice none 0 0) := box_grown hBX6 hOX6 hgX7
          obtain ⟨aX7, cX7, hvX7⟩ := owns_slice hOX7
          subst hvX7
          clear hgX7
          refine hK.out _ _ ⟨(PP.out.ba.next belX7).1, (PP.out.bb.next belX7).1, belX7⟩ (fun _ => ?_)
          clear hK K
          try dsimp only [List.getElem_toArray, List.getElem_cons_succ, List.getElem_cons_zero, Act.put]
          try simp only [List.setIfInBounds_toArray, List.set_cons_zero, List.set_cons_succ]
          refine wpAnyH_take (i := 7) (v := ?_) rfl (by kernel_rfl) (by kernel_rfl) (by kernel_rfl) (fun _ _ _ h => h) (Or.inl ⟨by kernel_rfl, ?_⟩) ⟨(PP.out.ba.next belX7).1, (PP.out.bb.next belX7).1, belX7⟩ ?_
          rotate_left
          · (intro w0 hSw; (try dsimp only at hSw); obtain ⟨c0, c1, hLB⟩ := hSw; go_simp; try with_reducible rfl)
          try dsimp only [List.getElem_toArray, List.getElem_cons_succ, List.getElem_cons_zero, Act.put]
          try simp only [List.setIfInBounds_toArray, List.set_cons_zero, List.set_cons_succ]
          refine wpAnyH_ready (rs := [9]) (by kernel_rfl) (by simp) (AllReadyH.cons rfl (fun K hK => ?_) AllReadyH.nil)
          have hcb := hBX7.cell
          have hfb := hBX7.frozen
          go_simp
          obtain ⟨X8, hX8⟩ : ∃ X, X = X7.setCell ⟨bb, 0, none⟩ (.slice aX7 (L + M) cX7) := ⟨_, rfl⟩
          have belX8 : Below w3.heap.size w3 X8 := by rw [hX8]; exact belX7.setCell (p := ⟨bb, 0, none⟩) hbbw _
          have hfin := joins_end (hO := hOX7) (hB := hBX7) HR.out (PP.out.below.trans (belX8.mono PP.out.below.size)) hX8 HLe.out HMe.out
          rw [← hX8]
          clear hX8
          refine hK.out _ _ ⟨(PP.out.ba.next belX8).1, (PP.out.bb.next belX8).1, belX8⟩ (fun _ => ?_)
          clear hK K
          refine wpAnyH_done (by kernel_rfl) ?_ _
          try dsimp only [List.getElem_toArray, List.getElem_cons_succ, List.getElem_cons_zero, Act.put]
          try simp only [List.setIfInBounds_toArray, List.set_cons_zero, List.set_cons_succ]
          have hp := PP.out.next belX8
          go_wp2_with (fail)
          go_meet
          exact ⟨bb, aX7, cX7, rfl, ⟨hp.ba, hp.bb, hfin.1, hp.iv, hp.iu, hfin.2, hp.below⟩⟩
      · go_simp
        obtain ⟨X9, hX9⟩ : ∃ X, X = X1.alloc (Obj.cells #[.slice none 0 0] 24) := ⟨_, rfl⟩
        have belX9 : Below w3.heap.size w3 X9 := by rw [hX9]; exact belX1.alloc belX1.size _
        obtain ⟨bb, hbb⟩ : ∃ bb, bb = X1.heap.size := ⟨_, rfl⟩
        have hbbw : w3.heap.size ≤ bb := by rw [hbb]; exact belX1.size
        have hBX9 : Boxed X9 bb 24 (.slice none 0 0) := by rw [hX9, hbb]; exact Boxed.new _ _ _
        have hOX9 := hOX1.alloc (.cells #[.slice none 0 0] 24)
        rw [← hX9] at hOX9
        rw [← hX9, ← hbb]
        clear hX9 hbb
        refine hK.out _ _ ⟨(PP.out.ba.next belX9).1, (PP.out.bb.next belX9).1, belX9⟩ (fun _ => ?_)
        clear hK K
        try dsimp only [List.getElem_toArray, List.getElem_cons_succ, List.getElem_cons_zero, Act.put]
        try simp only [List.setIfInBounds_toArray, List.set_cons_zero, List.set_cons_succ]
        refine wpAnyH_ready (rs := [3]) (by kernel_rfl) (by simp) (AllReadyH.cons rfl (fun K hK => ?_) AllReadyH.nil)
        refine step_append_vals rfl (.tmp 32) (.tmp 34) 22 rfl w3.heap.size 42 i0 (.slice none 0 0) 1 24 Try.underlying22 HI0.out hz0 hz1 hz2 rfl (by decide) (.slice (some ⟨W4.heap.size, 0, none⟩) 0 0) 0 [] rfl hOX9 an L cn us rfl (by rw [hus.out, Nat.mul_one]) (husn.out _ (PP.out.below.trans (belX9.mono PP.out.below.size))) hus1 (by unfold maxLen; omega) (by omega) belX9.size ?_
        intro vX10 X10 hOX10 hgX10
        rw [Nat.zero_add, List.nil_append] at hOX10
        have belX10 : Below w3.heap.size w3 X10 := row_below belX9 belX9.size hOX9 hgX10
        have hBX10 : Boxed X10 bb 24 (.slice none 0 0) := box_grown hBX9 hOX9 hgX10
        obtain ⟨aX10, cX10, hvX10⟩ := owns_slice hOX10
        subst hvX10
        clear hgX10
        refine hK.out _ _ ⟨(PP.out.ba.next belX10).1, (PP.out.bb.next belX10).1, belX10⟩ (fun _ => ?_)
        clear hK K
        try dsimp only [List.getElem_toArray, List.getElem_cons_succ, List.getElem_cons_zero, Act.put]
        try simp only [List.setIfInBounds_toArray, List.set_cons_zero, List.set_cons_succ]
        refine wpAnyH_ready (rs := [6]) (by kernel_rfl) (by simp) (AllReadyH.cons rfl (fun K hK => ?_) AllReadyH.nil)
        refine step_append_vals rfl (.tmp 35) (.tmp 37) 22 rfl w3.heap.size 42 i0 (.slice none 0 0) 1 24 Try.underlying22 HI0.out hz0 hz1 hz2 rfl (by decide) (.slice aX10 L cX10) L us rfl hOX10 am M cm vs rfl (by rw [hvs.out, Nat.mul_one]) (hvsn.out _ (PP.out.below.trans (belX10.mono PP.out.below.size))) hvs1 (by unfold maxLen; omega) (by omega) belX10.size ?_
        intro vX11 X11 hOX11 hgX11
        have belX11 : Below w3.heap.size w3 X11 := row_below belX10 belX10.size hOX10 hgX11
        have hBX11 : Boxed X11 bb 24 (.slice none 0 0) := box_grown hBX10 hOX10 hgX11
        obtain ⟨aX11, cX11, hvX11⟩ := owns_slice hOX11
        subst hvX11
        clear hgX11
        refine hK.out _ _ ⟨(PP.out.ba.next belX11).1, (PP.out.bb.next belX11).1, belX11⟩ (fun _ => ?_)
        clear hK K
        try dsimp only [List.getElem_toArray, List.getElem_cons_succ, List.getElem_cons_zero, Act.put]
        try simp only [List.setIfInBounds_toArray, List.set_cons_zero, List.set_cons_succ]
        refine wpAnyH_take (i := 7) (v := ?_) rfl (by kernel_rfl) (by kernel_rfl) (by kernel_rfl) (fun _ _ _ h => h) (Or.inl ⟨by kernel_rfl, ?_⟩) ⟨(PP.out.ba.next belX11).1, (PP.out.bb.next belX11).1, belX11⟩ ?_
        rotate_left
        · (intro w0 hSw; (try dsimp only at hSw); obtain ⟨c0, c1, hLB⟩ := hSw; go_simp; try with_reducible rfl)
        try dsimp only [List.getElem_toArray, List.getElem_cons_succ, List.getElem_cons_zero, Act.put]
        try simp only [List.setIfInBounds_toArray, List.set_cons_zero, List.set_cons_succ]
        refine wpAnyH_ready (rs := [9]) (by kernel_rfl) (by simp) (AllReadyH.cons rfl (fun K hK => ?_) AllReadyH.nil)
        have hcb := hBX11.cell
        have hfb := hBX11.frozen
        go_simp
        obtain ⟨X12, hX12⟩ : ∃ X, X = X11.setCell ⟨bb, 0, none⟩ (.slice aX11 (L + M) cX11) := ⟨_, rfl⟩
        have belX12 : Below w3.heap.size w3 X12 := by rw [hX12]; exact belX11.setCell (p := ⟨bb, 0, none⟩) hbbw _
        have hfin := joins_end (hO := hOX11) (hB := hBX11) HR.out (PP.out.below.trans (belX12.mono PP.out.below.size)) hX12 HLe.out HMe.out
        rw [← hX12]
        clear hX12
        refine hK.out _ _ ⟨(PP.out.ba.next belX12).1, (PP.out.bb.next belX12).1, belX12⟩ (fun _ => ?_)
        clear hK K
        refine wpAnyH_done (by kernel_rfl) ?_ _
        try dsimp only [List.getElem_toArray, List.getElem_cons_succ, List.getElem_cons_zero, Act.put]
        try simp only [List.setIfInBounds_toArray, List.set_cons_zero, List.set_cons_succ]
        have hp := PP.out.next belX12
        go_wp2_with (fail)
        go_meet
        exact ⟨bb, aX11, cX11, rfl, ⟨hp.ba, hp.bb, hfin.1, hp.iv, hp.iu, hfin.2, hp.below⟩⟩
    · go_simp
      obtain ⟨X13, hX13⟩ : ∃ X, X = W4.alloc (Obj.cells #[.slice none 0 0] 24) := ⟨_, rfl⟩
      have belX13 : Below w3.heap.size w3 X13 := by rw [hX13]; exact belW4.alloc belW4.size _
      obtain ⟨bb, hbb⟩ : ∃ bb, bb = W4.heap.size := ⟨_, rfl⟩
      have hbbw : w3.heap.size ≤ bb := by rw [hbb]; exact belW4.size
      have hBX13 : Boxed X13 bb 24 (.slice none 0 0) := by rw [hX13, hbb]; exact Boxed.new _ _ _
      rw [← hX13, ← hbb]
      clear hX13 hbb
      refine hK.out _ _ ⟨(PP.out.ba.next belX13).1, (PP.out.bb.next belX13).1, belX13⟩ (fun _ => ?_)
      clear hK K
      try dsimp only [List.getElem_toArray, List.getElem_cons_succ, List.getElem_cons_zero, Act.put]
      try simp only [List.setIfInBounds_toArray, List.set_cons_zero, List.set_cons_succ]
      refine wpAnyH_ready (rs := [0]) (by kernel_rfl) (by simp) (AllReadyH.cons rfl (fun K hK => ?_) AllReadyH.nil)
      go_simp
      obtain ⟨X14, hX14⟩ : ∃ X, X = X13.alloc (Obj.cells #[] 42) := ⟨_, rfl⟩
      have belX14 : Below w3.heap.size w3 X14 := by rw [hX14]; exact belX13.alloc belX13.size _
      have hOX14 : X14.ownsRow w3.heap.size 42 1 (.slice (some ⟨X13.heap.size, 0, none⟩) 0 0) 0 [] := by rw [hX14]; exact rowS (World.alloc_heap_new _ _) belX13.size
      have hBX14 : Boxed X14 bb 24 (.slice none 0 0) := by rw [hX14]; exact hBX13.alloc _
      rw [← hX14]
      clear hX14
      refine hK.out _ _ ⟨(PP.out.ba.next belX14).1, (PP.out.bb.next belX14).1, belX14⟩ (fun _ => ?_)
      clear hK K
      try dsimp only [List.getElem_toArray, List.getElem_cons_succ, List.getElem_cons_zero, Act.put]
      try simp only [List.setIfInBounds_toArray, List.set_cons_zero, List.set_cons_succ]
      refine wpAnyH_ready (rs := [3]) (by kernel_rfl) (by simp) (AllReadyH.cons rfl (fun K hK => ?_) AllReadyH.nil)
      refine step_append_vals rfl (.tmp 32) (.tmp 34) 22 rfl w3.heap.size 42 i0 (.slice none 0 0) 1 24 Try.underlying22 HI0.out hz0 hz1 hz2 rfl (by decide) (.slice (some ⟨X13.heap.size, 0, none⟩) 0 0) 0 [] rfl hOX14 an L cn us rfl (by rw [hus.out, Nat.mul_one]) (husn.out _ (PP.out.below.trans (belX14.mono PP.out.below.size))) hus1 (by unfold maxLen; omega) (by omega) belX14.size ?_
      intro vX15 X15 hOX15 hgX15
      rw [Nat.zero_add, List.nil_append] at hOX15
      have belX15 : Below w3.heap.size w3 X15 := row_below belX14 belX14.size hOX14 hgX15
      have hBX15 : Boxed X15 bb 24 (.slice none 0 0) := box_grown hBX14 hOX14 hgX15
      obtain ⟨aX15, cX15, hvX15⟩ := owns_slice hOX15
      subst hvX15
      clear hgX15
      refine hK.out _ _ ⟨(PP.out.ba.next belX15).1, (PP.out.bb.next belX15).1, belX15⟩ (fun _ => ?_)
      clear hK K
      try dsimp only [List.getElem_toArray, List.getElem_cons_succ, List.getElem_cons_zero, Act.put]
      try simp only [List.setIfInBounds_toArray, List.set_cons_zero, List.set_cons_succ]
      refine wpAnyH_ready (rs := [6]) (by kernel_rfl) (by simp) (AllReadyH.cons rfl (fun K hK => ?_) AllReadyH.nil)
      refine step_append_vals rfl (.tmp 35) (.tmp 37) 22 rfl w3.heap.size 42 i0 (.slice none 0 0) 1 24 Try.underlying22 HI0.out hz0 hz1 hz2 rfl (by decide) (.slice aX15 L cX15) L us rfl hOX15 am M cm vs rfl (by rw [hvs.out, Nat.mul_one]) (hvsn.out _ (PP.out.below.trans (belX15.mono PP.out.below.size))) hvs1 (by unfold maxLen; omega) (by omega) belX15.size ?_
      intro vX16 X16 hOX16 hgX16
      have belX16 : Below w3.heap.size w3 X16 := row_below belX15 belX15.size hOX15 hgX16
      have hBX16 : Boxed X16 bb 24 (.slice none 0 0) := box_grown hBX15 hOX15 hgX16
      obtain ⟨aX16, cX16, hvX16⟩ := owns_slice hOX16
      subst hvX16
      clear hgX16
      refine hK.out _ _ ⟨(PP.out.ba.next belX16).1, (PP.out.bb.next belX16).1, belX16⟩ (fun _ => ?_)
      clear hK K
      try dsimp only [List.getElem_toArray, List.getElem_cons_succ, List.getElem_cons_zero, Act.put]
      try simp only [List.setIfInBounds_toArray, List.set_cons_zero, List.set_cons_succ]
      refine wpAnyH_take (i := 7) (v := ?_) rfl (by kernel_rfl) (by kernel_rfl) (by kernel_rfl) (fun _ _ _ h => h) (Or.inl ⟨by kernel_rfl, ?_⟩) ⟨(PP.out.ba.next belX16).1, (PP.out.bb.next belX16).1, belX16⟩ ?_
      rotate_left
      · (intro w0 hSw; (try dsimp only at hSw); obtain ⟨c0, c1, hLB⟩ := hSw; go_simp; try with_reducible rfl)
      try dsimp only [List.getElem_toArray, List.getElem_cons_succ, List.getElem_cons_zero, Act.put]
      try simp only [List.setIfInBounds_toArray, List.set_cons_zero, List.set_cons_succ]
      refine wpAnyH_ready (rs := [9]) (by kernel_rfl) (by simp) (AllReadyH.cons rfl (fun K hK => ?_) AllReadyH.nil)
      have hcb := hBX16.cell
      have hfb := hBX16.frozen
      go_simp
      obtain ⟨X17, hX17⟩ : ∃ X, X = X16.setCell ⟨bb, 0, none⟩ (.slice aX16 (L + M) cX16) := ⟨_, rfl⟩
      have belX17 : Below w3.heap.size w3 X17 := by rw [hX17]; exact belX16.setCell (p := ⟨bb, 0, none⟩) hbbw _
      have hfin := joins_end (hO := hOX16) (hB := hBX16) HR.out (PP.out.below.trans (belX17.mono PP.out.below.size)) hX17 HLe.out HMe.out
      rw [← hX17]
      clear hX17
      refine hK.out _ _ ⟨(PP.out.ba.next belX17).1, (PP.out.bb.next belX17).1, belX17⟩ (fun _ => ?_)
      clear hK K
      refine wpAnyH_done (by kernel_rfl) ?_ _
      try dsimp only [List.getElem_toArray, List.getElem_cons_succ, List.getElem_cons_zero, Act.put]
      try simp only [List.setIfInBounds_toArray, List.set_cons_zero, List.set_cons_succ]
      have hp := PP.out.next belX17
      go_wp2_with (fail)
      go_meet
      exact ⟨bb, aX16, cX16, rfl, ⟨hp.ba, hp.bb, hfin.1, hp.iv, hp.iu, hfin.2, hp.below⟩⟩
  case rest =>
  obtain ⟨bb, ja, jc, hs7, hP0⟩ := hcut
  subst hs7
  have hma : many rr ≤ 2100 := HF.out.all
  have hmb : many ss ≤ 2100 := HF2.out.all
  have hmj : many (rr ++ ss) ≤ 4300 := by rw [many_append]; omega
  have H22a := Lib.hid (fun W h => Try.P22 (.slice an L cn) rr 30 W (by omega) h)
  have H22b := Lib.hid (fun W h => Try.P22 (.slice am M cm) ss 30 W (by omega) h)
  have H22c := Lib.hid (fun W h => Try.P22 (.slice ja (L + M) jc) (rr ++ ss) 30 W (by omega) h)
  have ea : cntX rr 30 = countL rr 30 := cntX_in rr (N := 30) (by omega) (by omega)
  have eb : cntX ss 30 = countL ss 30 := cntX_in ss (N := 30) (by omega) (by omega)
  have ec : cntX (rr ++ ss) 30 = countL (rr ++ ss) 30 := cntX_in (rr ++ ss) (N := 30) (by omega) (by omega)
  rw [ea, countL_len] at H22a
  rw [eb, countL_len] at H22b
  rw [ec, countL_len] at H22c
  have H16a := Lib.hid (fun W h => Try.P16 (.slice an L cn) rr W (by omega) h)
  have H16b := Lib.hid (fun W h => Try.P16 (.slice am M cm) ss W (by omega) h)
  have H16c := Lib.hid (fun W h => Try.P16 (.slice ja (L + M) jc) (rr ++ ss) W (by omega) h)
  rw [show ((many (rr ++ ss) : Nat) : Int) = (many rr : Int) + (many ss : Int) by rw [many_append]; omega] at H16c
  have H19a := Lib.hid (fun W h => Try.P19 (.slice an L cn) rr st W h)
  have H19b := Lib.hid (fun W h => Try.P19 (.slice am M cm) ss st W h)
  have H19c := Lib.hid (fun W h => Try.P19 (.slice ja (L + M) jc) (rr ++ ss) st W h)
  have hca := Lib.hid (fun (q : Nat) (hq : q < 30) => (show (countL rr 30)[q]? = some (countR rr (q : Int) : Int) by simp [countL, hq]))
  have hcb := Lib.hid (fun (q : Nat) (hq : q < 30) => (show (countL ss 30)[q]? = some (countR ss (q : Int) : Int) by simp [countL, hq]))
  have hcc := Lib.hid (fun (q : Nat) (hq : q < 30) => (show (countL (rr ++ ss) 30)[q]? = some ((countR rr (q : Int) : Int) + (countR ss (q : Int) : Int)) by simp [countL, hq, countR_append]))
  have hra := Lib.hid (fun (q : Nat) => Nat.le_trans (countR_le rr (q : Int)) hma)
  have hrb := Lib.hid (fun (q : Nat) => Nat.le_trans (countR_le ss (q : Int)) hmb)
  have hfap := Lib.hid (findR_append st ss rr)
  have hfa := Lib.hid (fun i k (h : findR st rr = some (i, k)) => (findR_get h))
  have hfb := Lib.hid (fun i k (h : findR st ss = some (i, k)) => (findR_get h))
  generalize countL rr 30 = CA at *
  generalize countL ss 30 = CB at *
  generalize countL (rr ++ ss) 30 = CC at *
  generalize many rr = MA at *
  generalize many ss = MB at *
  have hadd : IntKind.i64.wrap ((MA : Int) + (MB : Int)) = (MA : Int) + (MB : Int) := IntWalk.i64_in _ (by omega)
  have HADD := Lib.hid hadd
  have P0 := Lib.hid hP0
  have c0 := hP0.ba.1
  clear hP0 ea eb ec hmj hadd B3 husn hvsn hus hvs HI0 hz0 hz1 hz2 HR hus1 hvs1
  go_wp2_with (fail)
  refine (H22a.out _ P0.out.iv).mono ?_
  rintro e w5 ⟨a1, n1, rfl, I1, hb5⟩
  have P5 := Lib.hid (P0.out.next hb5)
  have c1 := P5.out.bb.1
  replace I1 := Lib.hid I1
  clear hb5 P0 c0 H22a
  go_wp2_with (fail)
  refine (H22b.out _ P5.out.iu).mono ?_
  rintro e w6 ⟨a2, n2, rfl, I2, hb6⟩
  have P6 := Lib.hid (P5.out.next hb6)
  have c2 := P6.out.bc.1
  replace I1 := Lib.hid (I1.out.next hb6)
  replace I2 := Lib.hid I2
  clear hb6 P5 c1 H22b
  go_wp2_with (fail)
  refine (H22c.out _ P6.out.ix).mono ?_
  rintro e w7 ⟨a3, n3, rfl, I3, hb7⟩
  have P7 := Lib.hid (P6.out.next hb7)
  replace I1 := Lib.hid (I1.out.next hb7)
  replace I2 := Lib.hid (I2.out.next hb7)
  replace I3 := Lib.hid I3
  clear hb7 P6 c2 H22c
  go_wp2
  refine wp_region_held_drew (S := PS w w.heap.size (w.heap.size + 1) bb (.slice an L cn) rr (.slice am M cm) ss (.slice ja (L + M) jc) (rr ++ ss)) (by kernel_rfl) P7.out.drew.all (fun hHeld0 => ?_)
  have B8 := P7.out.drew
  replace I1 := I1.out.next (Below.refl _ w7).drew
  replace I2 := I2.out.next (Below.refl _ w7).drew
  replace I3 := I3.out.next (Below.refl _ w7).drew
  clear hHeld0 P7
  generalize w7.drew = W8 at *
  refine wpAnyH_take (i := 0) (v := ?_) rfl (by kernel_rfl) (by kernel_rfl) (by kernel_rfl) (fun _ _ _ h => h) (Or.inl ⟨by kernel_rfl, ?_⟩) B8.all ?_
  rotate_left
  · (intro w0 hSw; (try dsimp only at hSw); obtain ⟨c0, c1, c2, hLB⟩ := hSw; go_simp; try with_reducible rfl)
  try dsimp only [List.getElem_toArray, List.getElem_cons_succ, List.getElem_cons_zero, Act.put]
  try simp only [List.setIfInBounds_toArray, List.set_cons_zero, List.set_cons_succ]
  refine wpAnyH_take (i := 1) (v := ?_) rfl (by kernel_rfl) (by kernel_rfl) (by kernel_rfl) (fun _ _ _ h => h) (Or.inl ⟨by kernel_rfl, ?_⟩) B8.all ?_
  rotate_left
  · (intro w0 hSw; (try dsimp only at hSw); obtain ⟨c0, c1, c2, hLB⟩ := hSw; go_simp; try with_reducible rfl)
  try dsimp only [List.getElem_toArray, List.getElem_cons_succ, List.getElem_cons_zero, Act.put]
  try simp only [List.setIfInBounds_toArray, List.set_cons_zero, List.set_cons_succ]
  refine wpAnyH_take (i := 2) (v := .bool false) rfl (by kernel_rfl) (by kernel_rfl) (by kernel_rfl) (fun _ _ _ h => h) (Or.inl ⟨by kernel_rfl, ?_⟩) B8.all ?_
  · (intro w0 hSw; (try dsimp only at hSw); obtain ⟨c0, c1, c2, hLB⟩ := hSw; go_simp; try rfl)
  try dsimp only [List.getElem_toArray, List.getElem_cons_succ, List.getElem_cons_zero, Act.put]
  try simp only [List.setIfInBounds_toArray, List.set_cons_zero, List.set_cons_succ]
  refine wpAnyH_take (i := 3) (v := ?_) rfl (by kernel_rfl) (by kernel_rfl) (by kernel_rfl) (fun _ _ _ h => h) (Or.inl ⟨by kernel_rfl, ?_⟩) B8.all ?_
  rotate_left
  · (intro w0 hSw; (try dsimp only at hSw); obtain ⟨c0, c1, c2, hLB⟩ := hSw; go_simp; try with_reducible rfl)
  try dsimp only [List.getElem_toArray, List.getElem_cons_succ, List.getElem_cons_zero, Act.put]
  try simp only [List.setIfInBounds_toArray, List.set_cons_zero, List.set_cons_succ]
  refine wpAnyH_take (i := 4) (v := ?_) rfl (by kernel_rfl) (by kernel_rfl) (by kernel_rfl) (fun _ _ _ h => h) (Or.inl ⟨by kernel_rfl, ?_⟩) B8.all ?_
  rotate_left
  · (intro w0 hSw; (try dsimp only at hSw); obtain ⟨c0, c1, c2, hLB⟩ := hSw; go_simp; try with_reducible rfl)
  try dsimp only [List.getElem_toArray, List.getElem_cons_succ, List.getElem_cons_zero, Act.put]
  try simp only [List.setIfInBounds_toArray, List.set_cons_zero, List.set_cons_succ]
  refine wpAnyH_take (i := 5) (v := ?_) rfl (by kernel_rfl) (by kernel_rfl) (by kernel_rfl) (fun _ _ _ h => h) (Or.inl ⟨by kernel_rfl, ?_⟩) B8.all ?_
  rotate_left
  · (intro w0 hSw; (try dsimp only at hSw); obtain ⟨c0, c1, c2, hLB⟩ := hSw; go_simp; try with_reducible rfl)
  try dsimp only [List.getElem_toArray, List.getElem_cons_succ, List.getElem_cons_zero, Act.put]
  try simp only [List.setIfInBounds_toArray, List.set_cons_zero, List.set_cons_succ]
  refine wpAnyH_take (i := 6) (v := .bool false) rfl (by kernel_rfl) (by kernel_rfl) (by kernel_rfl) (fun _ _ _ h => h) (Or.inl ⟨by kernel_rfl, ?_⟩) B8.all ?_
  · (intro w0 hSw; (try dsimp only at hSw); obtain ⟨c0, c1, c2, hLB⟩ := hSw; go_simp; try rfl)
  try dsimp only [List.getElem_toArray, List.getElem_cons_succ, List.getElem_cons_zero, Act.put]
  try simp only [List.setIfInBounds_toArray, List.set_cons_zero, List.set_cons_succ]
  refine wpAnyH_take (i := 7) (v := ?_) rfl (by kernel_rfl) (by kernel_rfl) (by kernel_rfl) (fun _ _ _ h => h) (Or.inl ⟨by kernel_rfl, ?_⟩) B8.all ?_
  rotate_left
  · (intro w0 hSw; (try dsimp only at hSw); obtain ⟨c0, c1, c2, hLB⟩ := hSw; go_simp; try with_reducible rfl)
  try dsimp only [List.getElem_toArray, List.getElem_cons_succ, List.getElem_cons_zero, Act.put]
  try simp only [List.setIfInBounds_toArray, List.set_cons_zero, List.set_cons_succ]
  refine wpAnyH_take (i := 8) (v := ?_) rfl (by kernel_rfl) (by kernel_rfl) (by kernel_rfl) (fun _ _ _ h => h) (Or.inl ⟨by kernel_rfl, ?_⟩) B8.all ?_
  rotate_left
  · (intro w0 hSw; (try dsimp only at hSw); obtain ⟨c0, c1, c2, hLB⟩ := hSw; go_simp; try with_reducible rfl)
  try dsimp only [List.getElem_toArray, List.getElem_cons_succ, List.getElem_cons_zero, Act.put]
  try simp only [List.setIfInBounds_toArray, List.set_cons_zero, List.set_cons_succ]
  refine wpAnyH_take (i := 9) (v := ?_) rfl (by kernel_rfl) (by kernel_rfl) (by kernel_rfl) (fun _ _ _ h => h) (Or.inl ⟨by kernel_rfl, ?_⟩) B8.all ?_
  rotate_left
  · (intro w0 hSw; (try dsimp only at hSw); obtain ⟨c0, c1, c2, hLB⟩ := hSw; go_simp; try with_reducible rfl)
  try dsimp only [List.getElem_toArray, List.getElem_cons_succ, List.getElem_cons_zero, Act.put]
  try simp only [List.setIfInBounds_toArray, List.set_cons_zero, List.set_cons_succ]
  refine wpAnyH_take (i := 10) (v := ?_) rfl (by kernel_rfl) (by kernel_rfl) (by kernel_rfl) (fun _ _ _ h => h) (Or.inl ⟨by kernel_rfl, ?_⟩) B8.all ?_
  rotate_left
  · (intro w0 hSw; (try dsimp only at hSw); obtain ⟨c0, c1, c2, hLB⟩ := hSw; go_simp; try with_reducible rfl)
  try dsimp only [List.getElem_toArray, List.getElem_cons_succ, List.getElem_cons_zero, Act.put]
  try simp only [List.setIfInBounds_toArray, List.set_cons_zero, List.set_cons_succ]
  refine wpAnyH_take (i := 11) (v := .bool false) rfl (by kernel_rfl) (by kernel_rfl) (by kernel_rfl) (fun _ _ _ h => h) (Or.inl ⟨by kernel_rfl, ?_⟩) B8.all ?_
  · (intro w0 hSw; (try dsimp only at hSw); obtain ⟨c0, c1, c2, hLB⟩ := hSw; go_simp; try rfl)
  try dsimp only [List.getElem_toArray, List.getElem_cons_succ, List.getElem_cons_zero, Act.put]
  try simp only [List.setIfInBounds_toArray, List.set_cons_zero, List.set_cons_succ]
  refine wpAnyH_take (i := 12) (v := ?_) rfl (by kernel_rfl) (by kernel_rfl) (by kernel_rfl) (fun _ _ _ h => h) (Or.inl ⟨by kernel_rfl, ?_⟩) B8.all ?_
  rotate_left
  · (intro w0 hSw; (try dsimp only at hSw); obtain ⟨c0, c1, c2, hLB⟩ := hSw; go_simp; try with_reducible rfl)
  try dsimp only [List.getElem_toArray, List.getElem_cons_succ, List.getElem_cons_zero, Act.put]
  try simp only [List.setIfInBounds_toArray, List.set_cons_zero, List.set_cons_succ]
  refine wpAnyH_take (i := 13) (v := ?_) rfl (by kernel_rfl) (by kernel_rfl) (by kernel_rfl) (fun _ _ _ h => h) (Or.inl ⟨by kernel_rfl, ?_⟩) B8.all ?_
  rotate_left
  · (intro w0 hSw; (try dsimp only at hSw); obtain ⟨c0, c1, c2, hLB⟩ := hSw; go_simp; try with_reducible rfl)
  try dsimp only [List.getElem_toArray, List.getElem_cons_succ, List.getElem_cons_zero, Act.put]
  try simp only [List.setIfInBounds_toArray, List.set_cons_zero, List.set_cons_succ]
  refine wpAnyH_take (i := 14) (v := ?_) rfl (by kernel_rfl) (by kernel_rfl) (by kernel_rfl) (fun _ _ _ h => h) (Or.inl ⟨by kernel_rfl, ?_⟩) B8.all ?_
  rotate_left
  · (intro w0 hSw; (try dsimp only at hSw); obtain ⟨c0, c1, c2, hLB⟩ := hSw; go_simp; try with_reducible rfl)
  try dsimp only [List.getElem_toArray, List.getElem_cons_succ, List.getElem_cons_zero, Act.put]
  try simp only [List.setIfInBounds_toArray, List.set_cons_zero, List.set_cons_succ]
  refine wpAnyH_take (i := 16) (v := ?_) rfl (by kernel_rfl) (by kernel_rfl) (by kernel_rfl) (fun _ _ _ h => h) (Or.inl ⟨by kernel_rfl, ?_⟩) B8.all ?_
  rotate_left
  · (intro w0 hSw; (try dsimp only at hSw); obtain ⟨c0, c1, c2, hLB⟩ := hSw; go_simp; try with_reducible rfl)
  try dsimp only [List.getElem_toArray, List.getElem_cons_succ, List.getElem_cons_zero, Act.put]
  try simp only [List.setIfInBounds_toArray, List.set_cons_zero, List.set_cons_succ]
  refine wpAnyH_take (i := 18) (v := ?_) rfl (by kernel_rfl) (by kernel_rfl) (by kernel_rfl) (fun _ _ _ h => h) (Or.inl ⟨by kernel_rfl, ?_⟩) B8.all ?_
  rotate_left
  · (intro w0 hSw; (try dsimp only at hSw); obtain ⟨c0, c1, c2, hLB⟩ := hSw; go_simp; try with_reducible rfl)
  try dsimp only [List.getElem_toArray, List.getElem_cons_succ, List.getElem_cons_zero, Act.put]
  try simp only [List.setIfInBounds_toArray, List.set_cons_zero, List.set_cons_succ]
  refine wpAnyH_ready (rs := [15]) (by kernel_rfl) (by simp) (AllReadyH.cons rfl (fun K hK => ?_) AllReadyH.nil)
  go_simp
  go_at_call 16
  (with_reducible refine (H16c.out _ B8.ix).mono ?_)
  rintro e W15 ⟨rfl, h15⟩
  have B15 := B8.next h15
  replace I1 := HasInts.next I1 h15
  replace I2 := HasInts.next I2 h15
  replace I3 := HasInts.next I3 h15
  refine hK.out _ _ B15.all (fun hHeld15 => ?_)
  clear hK K hHeld15
  try dsimp only [List.getElem_toArray, List.getElem_cons_succ, List.getElem_cons_zero, Act.put]
  try simp only [List.setIfInBounds_toArray, List.set_cons_zero, List.set_cons_succ]
  refine wpAnyH_ready (rs := [17]) (by kernel_rfl) (by simp) (AllReadyH.cons rfl (fun K hK => ?_) AllReadyH.nil)
  go_simp
  go_at_call 16
  (with_reducible refine (H16a.out _ B15.iv).mono ?_)
  rintro e W17 ⟨rfl, h17⟩
  have B17 := B15.next h17
  replace I1 := HasInts.next I1 h17
  replace I2 := HasInts.next I2 h17
  replace I3 := HasInts.next I3 h17
  refine hK.out _ _ B17.all (fun hHeld17 => ?_)
  clear hK K hHeld17
  try dsimp only [List.getElem_toArray, List.getElem_cons_succ, List.getElem_cons_zero, Act.put]
  try simp only [List.setIfInBounds_toArray, List.set_cons_zero, List.set_cons_succ]
  refine wpAnyH_ready (rs := [19]) (by kernel_rfl) (by simp) (AllReadyH.cons rfl (fun K hK => ?_) AllReadyH.nil)
  go_simp
  go_at_call 16
  (with_reducible refine (H16b.out _ B17.iu).mono ?_)
  rintro e W19 ⟨rfl, h19⟩
  have B19 := B17.next h19
  replace I1 := HasInts.next I1 h19
  replace I2 := HasInts.next I2 h19
  replace I3 := HasInts.next I3 h19
  refine hK.out _ _ B19.all (fun hHeld19 => ?_)
  clear hK K hHeld19
  try dsimp only [List.getElem_toArray, List.getElem_cons_succ, List.getElem_cons_zero, Act.put]
  try simp only [List.setIfInBounds_toArray, List.set_cons_zero, List.set_cons_succ]
  refine wpAnyH_take (i := 20) (v := .int .i64 ((MA : Int) + (MB : Int))) rfl (by kernel_rfl) (by kernel_rfl) (by kernel_rfl) (fun _ _ _ h => h) (Or.inl ⟨by kernel_rfl, ?_⟩) B19.all ?_
  · (intro w0 hSw; (try dsimp only at hSw); obtain ⟨c0, c1, c2, hLB⟩ := hSw; go_simp; try rw [HADD.out])
  try dsimp only [List.getElem_toArray, List.getElem_cons_succ, List.getElem_cons_zero, Act.put]
  try simp only [List.setIfInBounds_toArray, List.set_cons_zero, List.set_cons_succ]
  refine wpAnyH_take (i := 21) (v := .bool false) rfl (by kernel_rfl) (by kernel_rfl) (by kernel_rfl) (fun _ _ _ h => h) (Or.inl ⟨by kernel_rfl, ?_⟩) B19.all ?_
  · (intro w0 hSw; (try dsimp only at hSw); obtain ⟨c0, c1, c2, hLB⟩ := hSw; go_simp; try simp)
  try dsimp only [List.getElem_toArray, List.getElem_cons_succ, List.getElem_cons_zero, Act.put]
  try simp only [List.setIfInBounds_toArray, List.set_cons_zero, List.set_cons_succ]
  refine wpAnyH_take (i := 22) (v := ?_) rfl (by kernel_rfl) (by kernel_rfl) (by kernel_rfl) (fun _ _ _ h => h) (Or.inl ⟨by kernel_rfl, ?_⟩) B19.all ?_
  rotate_left
  · (intro w0 hSw; (try dsimp only at hSw); obtain ⟨c0, c1, c2, hLB⟩ := hSw; go_simp; try with_reducible rfl)
  try dsimp only [List.getElem_toArray, List.getElem_cons_succ, List.getElem_cons_zero, Act.put]
  try simp only [List.setIfInBounds_toArray, List.set_cons_zero, List.set_cons_succ]
  refine wpAnyH_done (by kernel_rfl) ?_ _
  try dsimp only [List.getElem_toArray, List.getElem_cons_succ, List.getElem_cons_zero, Act.put]
  try simp only [List.setIfInBounds_toArray, List.set_cons_zero, List.set_cons_succ]
  have PB9 := Lib.hid B19
  replace I1 := Lib.hid I1
  replace I2 := Lib.hid I2
  replace I3 := Lib.hid I3
  obtain ⟨W9, hW9⟩ : ∃ W9, W9 = W19 := ⟨_, rfl⟩
  rw [← hW9] at PB9 I1 I2 I3 ⊢
  clear hW9 H16a H16b H16c HADD
  go_wp2_with (fail)
  go_loopw [11] (fun i wr => ∃ q : Nat, q ≤ 30 ∧ i = .int .i64 (q : Int) ∧ Below W9.heap.size W9 wr) (fun i _ => 30 - (intOf i).toNat)
  case atStart => exact ⟨0, Nat.zero_le _, rfl, Below.refl _ _⟩
  case round =>
    obtain ⟨q, hq, rfl, hbw⟩ := hrel
    have HBW := Lib.hid hbw
    clear hbw
    by_cases hlt : q < 30
    · obtain ⟨b1, o1, p1, hv1, hl1, hc1⟩ := I1.out.at (hca.out q hlt)
      obtain ⟨b2, o2, p2, hv2, hl2, hc2⟩ := I2.out.at (hcb.out q hlt)
      obtain ⟨b3, o3, p3, hv3, hl3, hc3⟩ := I3.out.at (hcc.out q hlt)
      injection hv1 with e1 e2 e3
      subst e1
      clear e2 e3
      injection hv2 with e1 e2 e3
      subst e1
      clear e2 e3
      injection hv3 with e1 e2 e3
      subst e1
      clear e2 e3
      replace hc1 := (HBW.out.cell (p := ⟨b1, o1 + q, none⟩) hl1).trans hc1
      replace hc2 := (HBW.out.cell (p := ⟨b2, o2 + q, none⟩) hl2).trans hc2
      replace hc3 := (HBW.out.cell (p := ⟨b3, o3 + q, none⟩) hl3).trans hc3
      have m1 := hra.out q
      have m2 := hrb.out q
      generalize countR rr (q : Int) = C1 at *
      generalize countR ss (q : Int) = C2 at *
      have hw1 : IntKind.i64.wrap ((C1 : Int) + (C2 : Int)) = (C1 : Int) + (C2 : Int) := IntWalk.i64_in _ (by omega)
      have hw2 : wrap64 ((C1 : Int) + (C2 : Int)) = (C1 : Int) + (C2 : Int) := by unfold wrap64; omega
      have hd : (((C1 : Int) + (C2 : Int)) != ((C1 : Int) + (C2 : Int))) = false := bne_self_eq_false _
      have hqi : (q : Int) < 30 := by omega
      clear hl1 hl2 hl3 hL4 hM4 hma hmb
      go_wp2
      go_quiet (fail)
      go_wp2
      go_roundw
      case rel => exact ⟨q + 1, by omega, by go_num, lbelow_drewN HBW.out _⟩
      case measure => simp [intOf]; omega
    · obtain rfl : q = 30 := by omega
      have PB10 := Lib.hid (PB9.out.next HBW.out)
      have k10 := PB10.out.ba.1
      clear PB9 HBW I1 I2 I3 hca hcb hcc hra hrb
      go_wp2_with (fail)
      cases h1 : findR st rr with
      | some pr =>
        obtain ⟨ii, ki⟩ := pr
        have h3 : findR st (rr ++ ss) = some (ii, ki) := by rw [hfap.out, h1]
        rw [h1] at H19a
        rw [h3] at H19c
        obtain ⟨o2, ho2⟩ : ∃ o2, findR st ss = o2 := ⟨_, rfl⟩
        rw [ho2] at H19b
        obtain ⟨x2, hx2⟩ : ∃ x2, fI o2 = x2 := ⟨_, rfl⟩
        obtain ⟨y2, hy2⟩ : ∃ y2, fK o2 = y2 := ⟨_, rfl⟩
        obtain ⟨z2, hz2⟩ : ∃ z2, fB o2 = z2 := ⟨_, rfl⟩
        rw [hx2, hy2, hz2] at H19b
        have H19a' : Hid (∀ W, HasRts W (.slice an L cn) rr → Calls Try.prog 19 #[.agg #[(.slice an L cn)], .int .i64 st] W fun e w' => e = .returned (.tuple #[.int .i64 (ii : Int), .int .i64 (ki : Int), .bool true]) ∧ Below W.heap.size W w') := H19a
        have H19b' : Hid (∀ W, HasRts W (.slice am M cm) ss → Calls Try.prog 19 #[.agg #[(.slice am M cm)], .int .i64 st] W fun e w' => e = .returned (.tuple #[.int .i64 x2, .int .i64 y2, .bool z2]) ∧ Below W.heap.size W w') := H19b
        have H19c' : Hid (∀ W, HasRts W (.slice ja (L + M) jc) (rr ++ ss) → Calls Try.prog 19 #[.agg #[(.slice ja (L + M) jc)], .int .i64 st] W fun e w' => e = .returned (.tuple #[.int .i64 (ii : Int), .int .i64 (ki : Int), .bool true]) ∧ Below W.heap.size W w') := H19c
        clear H19a H19b H19c h1 h3 ho2 hx2 hy2 hz2 hfap hfa hfb
        refine (H19a'.out _ PB10.out.iv).mono ?_
        rintro e w11 ⟨rfl, hb11⟩
        have PB11 := Lib.hid (PB10.out.next hb11)
        have k11 := PB11.out.bb.1
        clear hb11 H19a' k10
        go_wp2_with (fail)
        refine (H19b'.out _ PB11.out.iu).mono ?_
        rintro e w12 ⟨rfl, hb12⟩
        have PB12 := Lib.hid (PB11.out.next hb12)
        have k12 := PB12.out.bc.1
        clear hb12 H19b' k11
        go_wp2_with (fail)
        refine (H19c'.out _ PB12.out.ix).mono ?_
        rintro e w13 ⟨rfl, hb13⟩
        have PB13 := Lib.hid (PB12.out.next hb13)
        have k13 := PB13.out.ba.1
        clear hb13 H19c' k12
        go_wp2_with (fail)
        go_ret
        exact ⟨rfl, PB13.out.below⟩
      | none =>
        rw [h1] at H19a
        cases h2 : findR st ss with
        | none =>
          have h3 : findR st (rr ++ ss) = none := by rw [hfap.out, h1, h2]; rfl
          rw [h2] at H19b
          rw [h3] at H19c
          have H19a' : Hid (∀ W, HasRts W (.slice an L cn) rr → Calls Try.prog 19 #[.agg #[(.slice an L cn)], .int .i64 st] W fun e w' => e = .returned (.tuple #[.int .i64 0, .int .i64 0, .bool false]) ∧ Below W.heap.size W w') := H19a
          have H19b' : Hid (∀ W, HasRts W (.slice am M cm) ss → Calls Try.prog 19 #[.agg #[(.slice am M cm)], .int .i64 st] W fun e w' => e = .returned (.tuple #[.int .i64 0, .int .i64 0, .bool false]) ∧ Below W.heap.size W w') := H19b
          have H19c' : Hid (∀ W, HasRts W (.slice ja (L + M) jc) (rr ++ ss) → Calls Try.prog 19 #[.agg #[(.slice ja (L + M) jc)], .int .i64 st] W fun e w' => e = .returned (.tuple #[.int .i64 0, .int .i64 0, .bool false]) ∧ Below W.heap.size W w') := H19c
          clear H19a H19b H19c h1 h2 h3 hfap hfa hfb
          refine (H19a'.out _ PB10.out.iv).mono ?_
          rintro e w11 ⟨rfl, hb11⟩
          have PB11 := Lib.hid (PB10.out.next hb11)
          have k11 := PB11.out.bb.1
          clear hb11 H19a' k10
          go_wp2_with (fail)
          refine (H19b'.out _ PB11.out.iu).mono ?_
          rintro e w12 ⟨rfl, hb12⟩
          have PB12 := Lib.hid (PB11.out.next hb12)
          have k12 := PB12.out.bc.1
          clear hb12 H19b' k11
          go_wp2_with (fail)
          refine (H19c'.out _ PB12.out.ix).mono ?_
          rintro e w13 ⟨rfl, hb13⟩
          have PB13 := Lib.hid (PB12.out.next hb13)
          have k13 := PB13.out.ba.1
          clear hb13 H19c' k12
          go_wp2_with (fail)
          go_ret
          exact ⟨rfl, PB13.out.below⟩
        | some pr =>
          obtain ⟨ii, ki⟩ := pr
          have h3 : findR st (rr ++ ss) = some (ii + L, ki) := by rw [hfap.out, h1, h2, ← HLe.out]; rfl
          have hiM : ii < M := by
            obtain ⟨r, k1, _⟩ := hfb.out ii ki h2
            have := (List.getElem?_eq_some_iff.1 k1).1
            have := HMe.out
            omega
          rw [h2] at H19b
          rw [h3] at H19c
          have hcast : fI (some (ii + L, ki)) = (ii : Int) + (L : Int) := by show ((ii + L : Nat) : Int) = _; omega
          rw [hcast] at H19c
          have H19a' : Hid (∀ W, HasRts W (.slice an L cn) rr → Calls Try.prog 19 #[.agg #[(.slice an L cn)], .int .i64 st] W fun e w' => e = .returned (.tuple #[.int .i64 0, .int .i64 0, .bool false]) ∧ Below W.heap.size W w') := H19a
          have H19b' : Hid (∀ W, HasRts W (.slice am M cm) ss → Calls Try.prog 19 #[.agg #[(.slice am M cm)], .int .i64 st] W fun e w' => e = .returned (.tuple #[.int .i64 (ii : Int), .int .i64 (ki : Int), .bool true]) ∧ Below W.heap.size W w') := H19b
          have H19c' : Hid (∀ W, HasRts W (.slice ja (L + M) jc) (rr ++ ss) → Calls Try.prog 19 #[.agg #[(.slice ja (L + M) jc)], .int .i64 st] W fun e w' => e = .returned (.tuple #[.int .i64 ((ii : Int) + (L : Int)), .int .i64 (ki : Int), .bool true]) ∧ Below W.heap.size W w') := H19c
          clear H19a H19b H19c h1 h2 h3 hfap hfa hfb hcast
          refine (H19a'.out _ PB10.out.iv).mono ?_
          rintro e w11 ⟨rfl, hb11⟩
          have PB11 := Lib.hid (PB10.out.next hb11)
          have k11 := PB11.out.bb.1
          clear hb11 H19a' k10
          go_wp2_with (fail)
          refine (H19b'.out _ PB11.out.iu).mono ?_
          rintro e w12 ⟨rfl, hb12⟩
          have PB12 := Lib.hid (PB11.out.next hb12)
          have k12 := PB12.out.bc.1
          clear hb12 H19b' k11
          go_wp2_with (fail)
          refine (H19c'.out _ PB12.out.ix).mono ?_
          rintro e w13 ⟨rfl, hb13⟩
          have PB13 := Lib.hid (PB12.out.next hb13)
          have k13 := PB13.out.ba.1
          clear hb13 H19c' k12
          go_wp2_with (fail)
          go_ret
          exact ⟨rfl, PB13.out.below⟩
theorem Try.PlanJoins_all (v : Value) (rr : Rts) (u : Value) (ss : Rts) (st : Int) (_ : (Lit.int .i64 st).wf = true) (w : World) (hv : HasRts w v rr) (hu : HasRts w u ss) :
    Calls Try.prog 7 #[planV v, planV u, .int .i64 st] w fun e w' => e = .returned (.bool true) ∧ Below w.heap.size w w' := by
  cases h1 : longR rr with
  | true => exact Try.PlanJoins_long v u rr ss st w hv hu (.inl h1)
  | false =>
    cases h2 : longR ss with
    | true => exact Try.PlanJoins_long v u rr ss st w hv hu (.inr ⟨h1, h2⟩)
    | false => exact Try.PlanJoins_calls v u rr ss st w hv hu h1 h2
#print axioms Try.PlanJoins_all
end Go.Proofs
