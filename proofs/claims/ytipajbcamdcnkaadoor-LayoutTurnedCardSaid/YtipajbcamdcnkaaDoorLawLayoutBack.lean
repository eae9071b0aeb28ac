/- The law LayoutBack of layer 7, as a contract: it answers true at every input. Conditions: the array of keywords holds what the card lays. -/
import Derived.Test.YtipajbcamdcnkaaDoorLawLayoutPacks
namespace Go.Layout
theorem unpackE_back {k n : Int} {l m : List Int} (h : unpackE k n l = (m, 0)) : packE k n m = (l, 0) := by
  cases hm : mayB k n with
  | false => rw [unpackE_arg hm] at h; simp at h
  | true =>
    have hb := mayB_true hm
    obtain ⟨k, rfl⟩ := nat_in (show 0 ≤ k by omega)
    obtain ⟨n, rfl⟩ := nat_in (show 0 ≤ n by omega)
    by_cases hl : l.length = count k n
    · rw [unpackE_ok hm hl] at h
      cases h
      rw [packE_ok hm (by rw [unpack, grid_length]) (fun i j hi hj => unpack_fits (by omega) (by omega) l hi hj), pack_unpack (by rw [hl, places_length (by omega) (by omega)])]
    · rw [unpackE_len hm hl] at h; simp at h
theorem packE_back {k n : Int} {l p : List Int} (h : packE k n l = (p, 0)) : unpackE k n p = (l, 0) := by
  cases hm : mayB k n with
  | false => rw [packE_arg hm] at h; simp at h
  | true =>
    have hb := mayB_true hm
    obtain ⟨k, rfl⟩ := nat_in (show 0 ≤ k by omega)
    obtain ⟨n, rfl⟩ := nat_in (show 0 ≤ n by omega)
    by_cases hl : l.length = n * n
    · by_cases hf : fits k n l
      · rw [packE_ok hm hl hf] at h
        cases h
        rw [unpackE_ok hm (by rw [pack_length, places_length (by omega) (by omega)]), unpack_pack (by omega) (by omega) hl hf]
      · rw [packE_no hm hf] at h; simp at h
    · rw [packE_len hm hl] at h; simp at h
theorem packE_none {k n g : Int} {l p : List Int} (h : packE k n l = (p, g)) (hg : g ≠ 0) : p = [] := by
  unfold packE at h
  split at h
  · cases h; rfl
  · split at h
    · cases h; exact absurd rfl hg
    · cases h; rfl
end Go.Layout
namespace Go.Proofs
open Go.RowKit Go.Shelf Go.Layout Go.TextTab
attribute [local go_sem] Oper.semAt_some

set_option maxRecDepth 100000 in
set_option maxHeartbeats 1000000 in
theorem Tryd.LayoutBack_out (k n : Int) (v : Value) (l : List Int) (w : World) (hT : LayTab w) (hv : HasInts w v l) (h : decide ((400 : Int) < (l.length : Int)) = true ∨ (decide ((400 : Int) < (l.length : Int)) = false ∧ decide (20 < n) = true ∧ decide (n ≤ 400) = true)) :
    Calls Tryd.prog 6 #[.int .i64 k, .int .i64 n, v] w fun e w' => e = .returned (.bool true) ∧ Below w.heap.size w w' := by
  have S := Tryd.shown_calls w hT
  clear hT
  obtain ⟨ao, cap, rfl, _⟩ := hv.dat
  clear hv
  generalize l.length = L at h
  rcases h with c1 | ⟨c1, c2, c3⟩
  all_goals
    go_enter Tryd.func6, Tryd.ntmps6
    go_wp2_with (go_at_call 9; (with_reducible refine S.mono ?_); rintro e w3 ⟨rfl, hb⟩)
    go_ret
    exact ⟨rfl, hb⟩
set_option maxRecDepth 100000 in
set_option maxHeartbeats 2000000 in
theorem Tryd.LayoutBack_in (k n : Int) (v : Value) (l : List Int) (w : World) (hT : LayTab w) (hv : HasInts w v l) (c1 : decide ((400 : Int) < (l.length : Int)) = false) (h : decide (20 < n) = false ∨ (decide (20 < n) = true ∧ decide (n ≤ 400) = false)) :
    Calls Tryd.prog 6 #[.int .i64 k, .int .i64 n, v] w fun e w' => e = .returned (.bool true) ∧ Below w.heap.size w w' := by
  have S := Tryd.shown_calls w hT
  have hl : l.length ≤ 2000000 := by have := of_decide_eq_false c1; omega
  have U1 := fun (W : World) (h : HasInts W v l) => Tryd.Unpack_calls k n v l W h
  have P2 := fun (W : World) (h : HasInts W v l) => Tryd.Pack_calls k n v l W h
  obtain ⟨⟨m1, e1⟩, hU⟩ : ∃ U, unpackE k n l = U := ⟨_, rfl⟩
  obtain ⟨⟨p1, g1⟩, hP⟩ : ∃ U, packE k n l = U := ⟨_, rfl⟩
  rw [hU] at U1
  rw [hP] at P2
  have P1 : e1 = 0 → ∀ (u : Value) (W : World), HasInts W u m1 → Calls Tryd.prog 21 #[.int .i64 k, .int .i64 n, u] W fun e w' => ∃ v', e = .returned (.tuple #[v', .int .i64 0]) ∧ HasInts w' v' l ∧ Below W.heap.size W w' := by
    rintro rfl u W h
    have := Tryd.Pack_calls k n u m1 W h
    rw [unpackE_back hU] at this
    exact this
  have U2 : g1 = 0 → ∀ (u : Value) (W : World), HasInts W u p1 → Calls Tryd.prog 18 #[.int .i64 k, .int .i64 n, u] W fun e w' => ∃ v', e = .returned (.tuple #[v', .int .i64 0]) ∧ HasInts w' v' l ∧ Below W.heap.size W w' := by
    rintro rfl u W h
    have := Tryd.Unpack_calls k n u p1 W h
    rw [packE_back hP] at this
    exact this
  have PN : g1 ≠ 0 → p1 = [] := packE_none hP
  have I := fun (a b : Value) (W : World) (h1 : HasInts W a l) (h2 : HasInts W b l) => Tryd.RInts_same a b l W hl h1 h2
  obtain ⟨ao, cap, hvs, _⟩ := hv.dat
  have HV := Lib.hid hv
  have HU1 := Lib.hid U1
  have HP2 := Lib.hid P2
  have HP1 := Lib.hid P1
  have HU2 := Lib.hid U2
  have HPN := Lib.hid PN
  have HI := Lib.hid I
  subst hvs
  obtain ⟨L, hL⟩ : ∃ L, l.length = L := ⟨_, rfl⟩
  rw [hL] at c1 HV HU1 HP2 ⊢
  have HL := Lib.hid hL
  clear hT hv U1 P2 P1 U2 PN I hl hU hP hL
  rcases h with c2 | ⟨c2, c3⟩
  all_goals
    go_enter Tryd.func6, Tryd.ntmps6
    go_wp2_with (go_at_call 9; (with_reducible refine S.mono ?_); rintro e w1 ⟨rfl, hb1⟩; clear S)
    refine (HU1.out _ (HV.out.next hb1)).mono ?_
    rintro e w2 ⟨v2, rfl, h2, hb2⟩
    have hB2 := hb1.trans (hb2.mono hb1.size)
    by_cases he : e1 = 0
    · have P1 := HP1.out he
      subst he
      have H2 := Lib.hid h2
      have HP := Lib.hid P1
      obtain ⟨ao2, cap2, rfl, _⟩ := h2.dat
      clear h2 P1
      go_wp2_with (fail)
      refine (HP.out _ _ H2.out).mono ?_
      rintro e w3 ⟨v3, rfl, h3, hb3⟩
      have H3 := Lib.hid h3
      obtain ⟨ao3, cap3, rfl, _⟩ := h3.dat
      have hB3 := hB2.trans (hb3.mono hB2.size)
      clear h3
      go_wp2_with (fail)
      refine (HI.out _ _ _ H3.out (HV.out.next hB3)).mono ?_
      rintro e w4 ⟨rfl, hb4⟩
      have hB4 := hB3.trans (hb4.mono hB3.size)
      go_wp2_with (fail)
      refine (HP2.out _ (HV.out.next hB4)).mono ?_
      rintro e w6 ⟨v6, rfl, h6, hb6⟩
      have hB6 := hB4.trans (hb6.mono hB4.size)
      by_cases hg : g1 = 0
      · have U2 := HU2.out hg
        subst hg
        have H6 := Lib.hid h6
        have HU := Lib.hid U2
        obtain ⟨ao6, cap6, rfl, _⟩ := h6.dat
        clear h6 U2
        go_wp2_with (fail)
        refine (HU.out _ _ H6.out).mono ?_
        rintro e w7 ⟨v7, rfl, h7, hb7⟩
        have H7 := Lib.hid h7
        obtain ⟨ao7, cap7, rfl, _⟩ := h7.dat
        have hB7 := hB6.trans (hb7.mono hB6.size)
        clear h7
        go_wp2_with (fail)
        refine (HI.out _ _ _ H7.out (HV.out.next hB7)).mono ?_
        rintro e w8 ⟨rfl, hb8⟩
        go_wp2
        go_ret
        exact ⟨rfl, hB7.trans (hb8.mono hB7.size)⟩
      · have hp := HPN.out hg
        subst hp
        have dg : (g1 != 0) = true := bne_iff_ne.2 hg
        obtain ⟨ao6, cap6, rfl, _⟩ := h6.dat
        clear h6 hg
        go_wp2
        go_ret
        exact ⟨rfl, hB6⟩
    · have de : (e1 == 0) = false := beq_eq_false_iff_ne.2 he
      obtain ⟨ao2, cap2, rfl, _⟩ := h2.dat
      clear h2 he
      go_wp2_with (fail)
      refine (HP2.out _ (HV.out.next hB2)).mono ?_
      rintro e w6 ⟨v6, rfl, h6, hb6⟩
      have hB6 := hB2.trans (hb6.mono hB2.size)
      by_cases hg : g1 = 0
      · have U2 := HU2.out hg
        subst hg
        have H6 := Lib.hid h6
        have HU := Lib.hid U2
        obtain ⟨ao6, cap6, rfl, _⟩ := h6.dat
        clear h6 U2
        go_wp2_with (fail)
        refine (HU.out _ _ H6.out).mono ?_
        rintro e w7 ⟨v7, rfl, h7, hb7⟩
        have H7 := Lib.hid h7
        obtain ⟨ao7, cap7, rfl, _⟩ := h7.dat
        have hB7 := hB6.trans (hb7.mono hB6.size)
        clear h7
        go_wp2_with (fail)
        refine (HI.out _ _ _ H7.out (HV.out.next hB7)).mono ?_
        rintro e w8 ⟨rfl, hb8⟩
        go_wp2
        go_ret
        exact ⟨rfl, hB7.trans (hb8.mono hB7.size)⟩
      · have hp := HPN.out hg
        subst hp
        have dg : (g1 != 0) = true := bne_iff_ne.2 hg
        obtain ⟨ao6, cap6, rfl, _⟩ := h6.dat
        clear h6 hg
        go_wp2
        go_ret
        exact ⟨rfl, hB6⟩
theorem Tryd.LayoutBack_calls (k n : Int) (v : Value) (l : List Int) (w : World) (hT : LayTab w) (hv : HasInts w v l) :
    Calls Tryd.prog 6 #[.int .i64 k, .int .i64 n, v] w fun e w' => e = .returned (.bool true) ∧ Below w.heap.size w w' := by
  by_cases h1 : (400 : Int) < (l.length : Int)
  · exact Tryd.LayoutBack_out k n v l w hT hv (.inl (decide_eq_true h1))
  · by_cases h2 : 20 < n
    · by_cases h3 : n ≤ 400
      · exact Tryd.LayoutBack_out k n v l w hT hv (.inr ⟨decide_eq_false h1, decide_eq_true h2, decide_eq_true h3⟩)
      · exact Tryd.LayoutBack_in k n v l w hT hv (decide_eq_false h1) (.inr ⟨decide_eq_true h2, decide_eq_false h3⟩)
    · exact Tryd.LayoutBack_in k n v l w hT hv (decide_eq_false h1) (.inl (decide_eq_false h2))
#print axioms Tryd.LayoutBack_calls
end Go.Proofs
