/- The law LayoutTurned of layer 7, as a contract: it answers true at every input. Conditions: the array of keywords holds what the card lays. -/
import Derived.Test.YtipajbcamdcnkaaDoorLawLayoutBack
namespace Go.Layout
theorem mayR {k r : Nat} (hk : 1 ≤ k) (hk7 : k ≤ 7) (hr : r ≤ 11) : mayB (k : Int) (1 + (r : Int)) = true := by
  rw [show (1 + (r : Int)) = ((r + 1 : Nat) : Int) by omega]; exact mayB_nat hk hk7 (by omega) (by omega)
theorem unR {k r : Nat} {l : List Int} (hk : 1 ≤ k) (hk7 : k ≤ 7) (hr : r ≤ 11) : unpackE (k : Int) (1 + (r : Int)) l = if l.length = count k (r + 1) then (unpack k (r + 1) l, 0) else ([], 70) := by
  rw [show (1 + (r : Int)) = ((r + 1 : Nat) : Int) by omega]
  by_cases h : l.length = count k (r + 1)
  · rw [if_pos h, unpackE_ok (mayB_nat hk hk7 (by omega) (by omega)) h]
  · rw [if_neg h, unpackE_len (mayB_nat hk hk7 (by omega) (by omega)) h]
theorem paR {k r : Nat} {m : List Int} (hk : 1 ≤ k) (hk7 : k ≤ 7) (hr : r ≤ 11) (hm : m.length = (r + 1) * (r + 1)) (hf : fits k (r + 1) m) : packE (k : Int) (1 + (r : Int)) m = (pack k (r + 1) m, 0) := by
  rw [show (1 + (r : Int)) = ((r + 1 : Nat) : Int) by omega]
  exact packE_ok (mayB_nat hk hk7 (by omega) (by omega)) hm hf
theorem un_six {r : Nat} {l : List Int} (hr : r ≤ 11) : unpackE 6 (1 + (r : Int)) l = unpackE 3 (1 + (r : Int)) l :=
  (unR (k := 6) (by omega) (by omega) hr).trans ((by rw [unpack_six]; rfl : _ = _).trans (unR (k := 3) (by omega) (by omega) hr).symm)
theorem un_seven {r : Nat} {l : List Int} (hr : r ≤ 11) : unpackE 7 (1 + (r : Int)) l = unpackE 2 (1 + (r : Int)) l :=
  (unR (k := 7) (by omega) (by omega) hr).trans ((by rw [unpack_seven]; rfl : _ = _).trans (unR (k := 2) (by omega) (by omega) hr).symm)
end Go.Layout
namespace Go.Proofs
open Go.RowKit Go.Shelf Go.Layout Go.TextTab
attribute [local go_sem] Oper.semAt_some

theorem tri_wrap {r : Nat} (hr : r ≤ 11) : wrap64 ((wrap64 ((1 + (r : Int)) * (1 + (r : Int) - 1))).tdiv 2) = (count 2 (r + 1) : Int) := by
  rcases (show r = 0 ∨ r = 1 ∨ r = 2 ∨ r = 3 ∨ r = 4 ∨ r = 5 ∨ r = 6 ∨ r = 7 ∨ r = 8 ∨ r = 9 ∨ r = 10 ∨ r = 11 by omega) with rfl | rfl | rfl | rfl | rfl | rfl | rfl | rfl | rfl | rfl | rfl | rfl <;> kernel_rfl

set_option maxRecDepth 100000 in
set_option maxHeartbeats 1000000 in
theorem Tryd.LayoutTurned_out (N : Nat) (hN : N ≤ 255) (v : Value) (l : List Int) (w : World) (hT : LayTab w) (hv : HasInts w v l) (c1 : decide ((100 : Int) < (l.length : Int)) = true) :
    Calls Tryd.prog 8 #[.int .u8 (N : Int), v] w fun e w' => e = .returned (.bool true) ∧ Below w.heap.size w w' := by
  have S := Tryd.shown_calls w hT
  clear hT
  obtain ⟨ao, cap, rfl, _⟩ := hv.dat
  clear hv
  generalize l.length = L at c1
  go_enter Tryd.func8, Tryd.ntmps8
  go_wp2_with (go_at_call 9; (with_reducible refine S.mono ?_); rintro e w3 ⟨rfl, hb⟩)
  go_ret
  exact ⟨rfl, hb⟩
set_option maxRecDepth 100000 in
set_option maxHeartbeats 2000000 in
theorem Tryd.LayoutTurned_bad (N r : Nat) (hN : N ≤ 255) (hr : r ≤ 11) (hNr : (N : Int) % 12 = (r : Int)) (v : Value) (l : List Int) (w : World) (hT : LayTab w) (hv : HasInts w v l) (c1 : decide ((100 : Int) < (l.length : Int)) = false) (hl : l.length ≠ count 2 (r + 1)) :
    Calls Tryd.prog 8 #[.int .u8 (N : Int), v] w fun e w' => e = .returned (.bool true) ∧ Below w.heap.size w w' := by
  have S := Tryd.shown_calls w hT
  have U2 := fun (W : World) (h : HasInts W v l) => Tryd.Unpack_calls 2 (1 + (r : Int)) v l W h
  have U3 := fun (W : World) (h : HasInts W v l) => Tryd.Unpack_calls 3 (1 + (r : Int)) v l W h
  have U6 := fun (W : World) (h : HasInts W v l) => Tryd.Unpack_calls 6 (1 + (r : Int)) v l W h
  have U7 := fun (W : World) (h : HasInts W v l) => Tryd.Unpack_calls 7 (1 + (r : Int)) v l W h
  rw [show unpackE 2 (1 + (r : Int)) l = ([], 70) from (unR (k := 2) (by omega) (by omega) hr).trans (if_neg hl)] at U2
  rw [show unpackE 3 (1 + (r : Int)) l = ([], 70) from (unR (k := 3) (by omega) (by omega) hr).trans (if_neg hl)] at U3
  rw [show unpackE 6 (1 + (r : Int)) l = ([], 70) from (unR (k := 6) (by omega) (by omega) hr).trans (if_neg hl)] at U6
  rw [show unpackE 7 (1 + (r : Int)) l = ([], 70) from (unR (k := 7) (by omega) (by omega) hr).trans (if_neg hl)] at U7
  have I := fun (a b : Value) (W : World) (h1 : HasInts W a []) (h2 : HasInts W b []) => Tryd.RInts_same a b [] W (by simp) h1 h2
  have dL : ((l.length : Int) == wrap64 ((wrap64 ((1 + (r : Int)) * (1 + (r : Int) - 1))).tdiv 2)) = false := by rw [tri_wrap hr, beq_eq_false_iff_ne]; omega
  obtain ⟨ao, cap, hvs, -⟩ := hv.dat
  have HV := Lib.hid hv
  have H2 := Lib.hid U2
  have H3 := Lib.hid U3
  have H6 := Lib.hid U6
  have H7 := Lib.hid U7
  have HI := Lib.hid I
  subst hvs
  generalize l.length = L at c1 HV H2 H3 H6 H7 dL ⊢
  clear hT hv U2 U3 U6 U7 I hl
  go_enter Tryd.func8, Tryd.ntmps8
  go_wp2_with (go_at_call 9; (with_reducible refine S.mono ?_); rintro e w1 ⟨rfl, hb1⟩; clear S)
  refine (H2.out _ (HV.out.next hb1)).mono ?_
  rintro e w2 ⟨v2, rfl, h2, hb2⟩
  have hB2 := hb1.trans (hb2.mono hb1.size)
  have K2 := Lib.hid h2
  obtain ⟨ao2, cap2, rfl, -⟩ := h2.dat
  clear h2
  go_wp2_with (fail)
  refine (H7.out _ (HV.out.next hB2)).mono ?_
  rintro e w3 ⟨v3, rfl, h3, hb3⟩
  have hB3 := hB2.trans (hb3.mono hB2.size)
  have K3 := Lib.hid h3
  obtain ⟨ao3, cap3, rfl, -⟩ := h3.dat
  clear h3
  go_wp2_with (fail)
  refine (H3.out _ (HV.out.next hB3)).mono ?_
  rintro e w4 ⟨v4, rfl, h4, hb4⟩
  have hB4 := hB3.trans (hb4.mono hB3.size)
  have K4 := Lib.hid h4
  obtain ⟨ao4, cap4, rfl, -⟩ := h4.dat
  clear h4
  go_wp2_with (fail)
  refine (H6.out _ (HV.out.next hB4)).mono ?_
  rintro e w5 ⟨v5, rfl, h5, hb5⟩
  have hB5 := hB4.trans (hb5.mono hB4.size)
  have K5 := Lib.hid h5
  obtain ⟨ao5, cap5, rfl, -⟩ := h5.dat
  clear h5
  go_wp2_with (fail)
  refine (HI.out _ _ _ (((K2.out.next hb3).next hb4).next hb5) ((K3.out.next hb4).next hb5)).mono ?_
  rintro e w6 ⟨rfl, hb6⟩
  have hB6 := hB5.trans (hb6.mono hB5.size)
  go_wp2_with (fail)
  refine (HI.out _ _ _ ((K4.out.next hb5).next hb6) (K5.out.next hb6)).mono ?_
  rintro e w7 ⟨rfl, hb7⟩
  have hB7 := hB6.trans (hb7.mono hB6.size)
  go_wp2
  go_ret
  exact ⟨rfl, hB7⟩
set_option maxRecDepth 100000 in
set_option maxHeartbeats 4000000 in
theorem Tryd.LayoutTurned_ok (N r : Nat) (hN : N ≤ 255) (hr : r ≤ 11) (hNr : (N : Int) % 12 = (r : Int)) (v : Value) (l : List Int) (w : World) (hT : LayTab w) (hv : HasInts w v l) (c1 : decide ((100 : Int) < (l.length : Int)) = false) (hl : l.length = count 2 (r + 1)) :
    Calls Tryd.prog 8 #[.int .u8 (N : Int), v] w fun e w' => e = .returned (.bool true) ∧ Below w.heap.size w w' := by
  have S := Tryd.shown_calls w hT
  have hL1 : l.length ≤ 100 := by have := of_decide_eq_false c1; omega
  obtain ⟨A, hA⟩ : ∃ A, unpack 2 (r + 1) l = A := ⟨_, rfl⟩
  obtain ⟨C, hC⟩ : ∃ C, unpack 3 (r + 1) l = C := ⟨_, rfl⟩
  have hAl : A.length = (r + 1) * (r + 1) := by rw [← hA, unpack, grid_length]
  have hCl : C.length = (r + 1) * (r + 1) := by rw [← hC, unpack, grid_length]
  have hsq : (r + 1) * (r + 1) ≤ 12 * 12 := Nat.mul_le_mul (by omega) (by omega)
  have hl3 : l.length = count 3 (r + 1) := hl
  have e2 : unpackE 2 (1 + (r : Int)) l = (A, 0) := (unR (k := 2) (by omega) (by omega) hr).trans (by rw [if_pos hl, hA])
  have e3 : unpackE 3 (1 + (r : Int)) l = (C, 0) := (unR (k := 3) (by omega) (by omega) hr).trans (by rw [if_pos hl3, hC])
  have e7 : unpackE 7 (1 + (r : Int)) l = (A, 0) := (un_seven hr).trans e2
  have e6 : unpackE 6 (1 + (r : Int)) l = (C, 0) := (un_six hr).trans e3
  have p4 : packE 4 (1 + (r : Int)) A = (pack 4 (r + 1) A, 0) := paR (k := 4) (by omega) (by omega) hr hAl (by rw [← hA]; exact upper_fits l)
  have p3 : packE 3 (1 + (r : Int)) A = (pack 3 (r + 1) A, 0) := paR (k := 3) (by omega) (by omega) hr hAl (by rw [← hA]; exact upper_fits l)
  have b4 := packE_back p4
  have b6 := (un_six (l := pack 3 (r + 1) A) hr).trans (packE_back p3)
  have hpl : (pack 4 (r + 1) A).length = l.length + (r + 1) := by rw [pack_length, places_length (by omega) (by omega), count_up, hl]
  obtain ⟨p, hp⟩ : ∃ p, pack 4 (r + 1) A = p := ⟨_, rfl⟩
  obtain ⟨q, hq⟩ : ∃ q, pack 3 (r + 1) A = q := ⟨_, rfl⟩
  rw [hp] at p4 b4 hpl
  rw [hq] at p3 b6
  have U2 := fun (W : World) (h : HasInts W v l) => Tryd.Unpack_calls 2 (1 + (r : Int)) v l W h
  have U3 := fun (W : World) (h : HasInts W v l) => Tryd.Unpack_calls 3 (1 + (r : Int)) v l W h
  have U6 := fun (W : World) (h : HasInts W v l) => Tryd.Unpack_calls 6 (1 + (r : Int)) v l W h
  have U7 := fun (W : World) (h : HasInts W v l) => Tryd.Unpack_calls 7 (1 + (r : Int)) v l W h
  have P4 := fun (u : Value) (W : World) (h : HasInts W u A) => Tryd.Pack_calls 4 (1 + (r : Int)) u A W h
  have P3 := fun (u : Value) (W : World) (h : HasInts W u A) => Tryd.Pack_calls 3 (1 + (r : Int)) u A W h
  have B4 := fun (u : Value) (W : World) (h : HasInts W u p) => Tryd.Unpack_calls 4 (1 + (r : Int)) u p W h
  have B6 := fun (u : Value) (W : World) (h : HasInts W u q) => Tryd.Unpack_calls 6 (1 + (r : Int)) u q W h
  rw [e2] at U2
  rw [e3] at U3
  rw [e6] at U6
  rw [e7] at U7
  rw [p4] at P4
  rw [p3] at P3
  rw [b4] at B4
  rw [b6] at B6
  have I := fun (a b : Value) (W : World) (h1 : HasInts W a A) (h2 : HasInts W b A) => Tryd.RInts_same a b A W (by omega) h1 h2
  have J := fun (a b : Value) (W : World) (h1 : HasInts W a C) (h2 : HasInts W b C) => Tryd.RInts_same a b C W (by omega) h1 h2
  have dL : ((l.length : Int) == wrap64 ((wrap64 ((1 + (r : Int)) * (1 + (r : Int) - 1))).tdiv 2)) = true := by rw [tri_wrap hr, hl]; simp
  have dP : ((p.length : Int) == (l.length : Int) + (1 + (r : Int))) = true := by rw [beq_iff_eq]; omega
  obtain ⟨ao, cap, hvs, _⟩ := hv.dat
  have HV := Lib.hid hv
  have H2 := Lib.hid U2
  have H3 := Lib.hid U3
  have H6 := Lib.hid U6
  have H7 := Lib.hid U7
  have HP4 := Lib.hid P4
  have HP3 := Lib.hid P3
  have HB4 := Lib.hid B4
  have HB6 := Lib.hid B6
  have HI := Lib.hid I
  have HJ := Lib.hid J
  subst hvs
  generalize l.length = L at c1 HV H2 H3 H6 H7 hL1 dL dP ⊢
  clear hT hv U2 U3 U6 U7 P4 P3 B4 B6 I J hl hl3 hA hC hAl hCl hsq e2 e3 e6 e7 p4 p3 b4 b6 hpl hp hq
  go_enter Tryd.func8, Tryd.ntmps8
  go_wp2_with (go_at_call 9; (with_reducible refine S.mono ?_); rintro e w1 ⟨rfl, hb1⟩; clear S)
  refine (H2.out _ (HV.out.next hb1)).mono ?_
  rintro e w2 ⟨v2, rfl, h2, hb2⟩
  have hB2 := hb1.trans (hb2.mono hb1.size)
  have K2 := Lib.hid h2
  obtain ⟨ao2, cap2, rfl, -⟩ := h2.dat
  clear h2
  go_wp2_with (fail)
  refine (H7.out _ (HV.out.next hB2)).mono ?_
  rintro e w3 ⟨v3, rfl, h3, hb3⟩
  have hB3 := hB2.trans (hb3.mono hB2.size)
  have K3 := Lib.hid h3
  obtain ⟨ao3, cap3, rfl, -⟩ := h3.dat
  clear h3
  go_wp2_with (fail)
  refine (H3.out _ (HV.out.next hB3)).mono ?_
  rintro e w4 ⟨v4, rfl, h4, hb4⟩
  have hB4 := hB3.trans (hb4.mono hB3.size)
  have K4 := Lib.hid h4
  obtain ⟨ao4, cap4, rfl, -⟩ := h4.dat
  clear h4
  go_wp2_with (fail)
  refine (H6.out _ (HV.out.next hB4)).mono ?_
  rintro e w5 ⟨v5, rfl, h5, hb5⟩
  have hB5 := hB4.trans (hb5.mono hB4.size)
  have K5 := Lib.hid h5
  obtain ⟨ao5, cap5, rfl, -⟩ := h5.dat
  clear h5
  go_wp2_with (fail)
  refine (HI.out _ _ _ (((K2.out.next hb3).next hb4).next hb5) ((K3.out.next hb4).next hb5)).mono ?_
  rintro e w6 ⟨rfl, hb6⟩
  have hB6 := hB5.trans (hb6.mono hB5.size)
  go_wp2_with (fail)
  refine (HJ.out _ _ _ ((K4.out.next hb5).next hb6) (K5.out.next hb6)).mono ?_
  rintro e w7 ⟨rfl, hb7⟩
  have hB7 := hB6.trans (hb7.mono hB6.size)
  go_wp2_with (fail)
  refine (HP4.out _ _ (((((K2.out.next hb3).next hb4).next hb5).next hb6).next hb7)).mono ?_
  rintro e w8 ⟨v8, rfl, h8, hb8⟩
  have hB8 := hB7.trans (hb8.mono hB7.size)
  have K8 := Lib.hid h8
  obtain ⟨ao8, cap8, rfl, -⟩ := h8.dat
  clear h8
  go_wp2_with (fail)
  refine (HP3.out _ _ ((((((K2.out.next hb3).next hb4).next hb5).next hb6).next hb7).next hb8)).mono ?_
  rintro e w9 ⟨v9, rfl, h9, hb9⟩
  have hB9 := hB8.trans (hb9.mono hB8.size)
  have K9 := Lib.hid h9
  obtain ⟨ao9, cap9, rfl, -⟩ := h9.dat
  clear h9
  go_wp2_with (fail)
  refine (HB4.out _ _ (K8.out.next hb9)).mono ?_
  rintro e w10 ⟨v10, rfl, h10, hb10⟩
  have hB10 := hB9.trans (hb10.mono hB9.size)
  have K10 := Lib.hid h10
  obtain ⟨ao10, cap10, rfl, -⟩ := h10.dat
  clear h10
  go_wp2_with (fail)
  refine (HB6.out _ _ (K9.out.next hb10)).mono ?_
  rintro e w11 ⟨v11, rfl, h11, hb11⟩
  have hB11 := hB10.trans (hb11.mono hB10.size)
  have K11 := Lib.hid h11
  obtain ⟨ao11, cap11, rfl, -⟩ := h11.dat
  clear h11
  have Z := ((((((((K2.out.next hb3).next hb4).next hb5).next hb6).next hb7).next hb8).next hb9).next hb10).next hb11
  have HZ := Lib.hid Z
  clear Z
  go_wp2_with (fail)
  refine (HI.out _ _ _ (K10.out.next hb11) HZ.out).mono ?_
  rintro e w12 ⟨rfl, hb12⟩
  have hB12 := hB11.trans (hb12.mono hB11.size)
  go_wp2_with (fail)
  refine (HI.out _ _ _ (K11.out.next hb12) (HZ.out.next hb12)).mono ?_
  rintro e w13 ⟨rfl, hb13⟩
  go_wp2
  go_ret
  exact ⟨rfl, hB12.trans (hb13.mono hB12.size)⟩
theorem Tryd.LayoutTurned_calls (a : Int) (ha : (Lit.int .u8 a).wf = true) (v : Value) (l : List Int) (w : World) (hT : LayTab w) (hv : HasInts w v l) :
    Calls Tryd.prog 8 #[.int .u8 a, v] w fun e w' => e = .returned (.bool true) ∧ Below w.heap.size w w' := by
  have hb : 0 ≤ a ∧ a ≤ 255 := by
    simp only [Lit.wf, Bool.and_eq_true, decide_eq_true_eq] at ha
    exact ha
  obtain ⟨N, rfl⟩ := nat_in hb.1
  by_cases h1 : (100 : Int) < (l.length : Int)
  · exact Tryd.LayoutTurned_out N (by omega) v l w hT hv (decide_eq_true h1)
  · by_cases hl : l.length = count 2 (N % 12 + 1)
    · exact Tryd.LayoutTurned_ok N (N % 12) (by omega) (by omega) (by omega) v l w hT hv (decide_eq_false h1) hl
    · exact Tryd.LayoutTurned_bad N (N % 12) (by omega) (by omega) (by omega) v l w hT hv (decide_eq_false h1) hl
#print axioms Tryd.LayoutTurned_calls
end Go.Proofs
