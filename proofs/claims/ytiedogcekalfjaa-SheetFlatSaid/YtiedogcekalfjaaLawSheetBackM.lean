/- The law SheetBack. Conditions: SheetC. -/
import Derived.Test.YtiedogcekalfjaaLawSheetNumbersM
import Derived.Test.YtiedogcekalfjaaG10
namespace Go.Sheet
open Go.Cur Go.Wds Go.Proofs Go.Fx
/-- The numbers that are written. -/
def wantN (l : List Int) : List Int := l.map fun x => x.tmod 100000001
theorem wantN_bd (l : List Int) : ∀ n ∈ wantN l, -100000000 ≤ n ∧ n ≤ 100000000 := fun n hn => by
  obtain ⟨x, _, rfl⟩ := List.mem_map.1 hn
  have := Int.tmod_lt_of_pos x (show (0 : Int) < 100000001 by decide)
  have h2 := Int.lt_tmod_of_pos x (show (0 : Int) < 100000001 by decide)
  omega
theorem itoa_short {n : Int} (h1 : -100000000 ≤ n) (h2 : n ≤ 100000000) : (Lib.itoa n).length ≤ 10 := by
  unfold Lib.itoa
  split
  · have := dec_short (u := n.natAbs) (k := 9) (by decide) (by have : (10 : Nat) ^ 9 = 1000000000 := by decide
                                                               omega)
    rw [List.length_cons]; omega
  · have := dec_short (u := n.toNat) (k := 9) (by decide) (by have : (10 : Nat) ^ 9 = 1000000000 := by decide
                                                              omega)
    omega
theorem txt_short (w : Nat) : ∀ (l : List Int) (i : Nat), (∀ n ∈ l, -100000000 ≤ n ∧ n ≤ 100000000) → (txtW w i l).length ≤ l.length * 14
  | [], _, _ => Nat.zero_le _
  | n :: l, i, h => by
    have h1 := itoa_short (h n (by simp)).1 (h n (by simp)).2
    have h2 := txt_short w l (i + 1) fun m hm => h m (by simp [hm])
    have h3 : (sepW w i).length ≤ 4 := by unfold sepW; split <;> simp
    rw [txtW, List.length_append, List.length_append, List.length_cons, Nat.succ_mul]
    omega
theorem catB (x y : List UInt8) : (⟨x.toArray⟩ : ByteArray) ++ ⟨y.toArray⟩ = ⟨(x ++ y).toArray⟩ := by
  apply ByteArray.ext
  simp
end Go.Sheet
namespace Go.Proofs
open Go.RowKit Go.Shelf Go.Cur Go.Wds Go.Sheet Go.Fx
attribute [local go_sem] Oper.semAt_some
/-- A slice that reads as these numbers of 32 bits. -/
def HasI32 (W : World) (v : Value) (l : List Int) : Prop := ∃ ao cap, v = .slice ao l.length cap ∧ (l = [] ∨ ∃ b off, ao = some ⟨b, off, none⟩ ∧ b < W.heap.size ∧ ∀ (i : Nat) (x : Int), l[i]? = some x → W.cell? ⟨b, off + i, none⟩ = some (.int .i32 x))
theorem ints_cut {W : World} {ao : Option Addr} {n c A E : Nat} {l : List Int} (h : HasInts W (.slice ao n c) l) (hn : l.length = n) (hA : A < n) (hAE : A ≤ E) (hE : E ≤ n) :
    ∃ b off, ao = some ⟨b, off, none⟩ ∧ n ≤ c ∧ HasInts W (.slice (some ⟨b, off + A, none⟩) (E - A) (c - A)) ((l.drop A).take (E - A)) := by
  rcases h with ⟨rfl, a, c', e⟩ | ⟨b, off, c', e, h1, h2, h3⟩
  · simp at hn; omega
  · rw [hn] at e
    cases e
    refine ⟨b, off, rfl, by omega, .inr ⟨b, off + A, c - A, ?_, ?_, by omega, h3.1, fun i x hi => ?_⟩⟩
    · rw [List.length_take, List.length_drop, hn, Nat.min_eq_left (by omega)]
    · rw [List.length_take, List.length_drop, hn, Nat.min_eq_left (by omega)]; omega
    · have hlt : i < E - A := by
        have := (List.getElem?_eq_some_iff.1 hi).1
        rw [List.length_take] at this; omega
      rw [List.getElem?_take_of_lt hlt, List.getElem?_drop] at hi
      have := h3.2 (A + i) x hi
      rw [← Nat.add_assoc] at this
      exact this
set_option maxRecDepth 100000 in
set_option maxHeartbeats 8000000 in
theorem Try.SheetBack_calls (H : Try.SheetC) (l : List Int) (v : Value) (wd : Nat) (w : World) (hwd : wd ≤ 255) (hr : ∀ x ∈ l, -2147483648 ≤ x ∧ x ≤ 2147483647) (hv : HasI32 w v l) : Calls Try.prog 7 #[v, .int .u8 (wd : Int)] w fun e w' => e = .returned (.bool true) ∧ Below w.heap.size w w' := by
  have HSH := Lib.hid fun W => Try.shown13_calls H W
  obtain ⟨av, cv, rfl, hv1⟩ := hv
  by_cases h1 : l.length ≤ 60
  · obtain ⟨i0, hio, hz0, hz1, hz2⟩ := info_parts Try.sinfo3
    have HI := Lib.hid hio
    have HV := Lib.hid hv1
    have HRG := Lib.hid hr
    obtain ⟨q, hq⟩ : ∃ q, 1 + wd % 7 = q := ⟨_, rfl⟩
    have hq1 : 1 ≤ q := by omega
    have hq7 : q ≤ 7 := by omega
    have hqi : (1 : Int) + (wd : Int) % 7 = (q : Int) := by omega
    have HWT := Lib.hid (wantN_bd l)
    have HTX : Hid (∀ k n, (wantN l)[k]? = some n → txtW q 0 ((wantN l).take (k + 1)) = txtW q 0 ((wantN l).take k) ++ Lib.itoa n ++ sepW q k) := fun k n h => txtW_take h
    have HTL : Hid (∀ k, (txtW q 0 ((wantN l).take k)).length ≤ k * 14) := fun k => Nat.le_trans (txt_short q _ 0 fun n hn => wantN_bd l n (List.mem_of_mem_take hn)) (Nat.mul_le_mul_right 14 (by rw [List.length_take]; omega))
    have HWG : Hid (∀ (k : Nat) (x : Int), l[k]? = some x → (wantN l)[k]? = some (x.tmod 100000001)) := fun k x h => by unfold wantN; rw [List.getElem?_map, h]; rfl
    have HTK : Hid (∀ k n, (wantN l)[k]? = some n → (wantN l).take (k + 1) = (wantN l).take k ++ [n]) := fun k n h => Go.Wds.take_get h
    have HNU : Hid (∀ (n : Int) (W : World), -100000000 ≤ n → n ≤ 100000000 → Calls Try.prog 26 #[.int .i64 n] W fun e w' => e = .returned (.string ⟨(Lib.itoa n).toArray⟩) ∧ Below W.heap.size W w') := fun n W h1 h2 => Try.Num_any n (by omega) (by omega) W
    obtain ⟨m, hn⟩ : ∃ m, l.length = m := ⟨_, rfl⟩
    have HN := Lib.hid hn
    have hWL : (wantN l).length = m := by unfold wantN; rw [List.length_map]; exact hn
    have HWL := Lib.hid hWL
    rw [hn] at h1 ⊢
    have n1 : ¬ (60 : Int) < (m : Int) := by omega
    have HTO := Lib.hid (told_all (q := q) hq1 (wantN_bd l))
    have HTZ : Hid ((⟨(txtW q 0 (wantN l)).toArray⟩ : ByteArray).size ≤ 1000) := by
      have := txt_short q (wantN l) 0 (wantN_bd l)
      show (txtW q 0 (wantN l)).length ≤ 1000
      omega
    have HRW := Lib.hid fun W => H.rows ⟨(txtW q 0 (wantN l)).toArray⟩ 0 W HTZ.out
    have HFL := Lib.hid fun (n : Int) u W (hnn : n ≤ 1000) h => H.flat ⟨(txtW q 0 (wantN l)).toArray⟩ 0 n u W HTZ.out (by omega) h
    have HIS := Lib.hid fun p n u W h1 h2 => H.ints ⟨(txtW q 0 (wantN l)).toArray⟩ 0 p n u W HTZ.out h1 h2
    generalize wantN l = want at *
    clear hn hv1 hio hr H hWL hq
    go_enter Try.func7, Try.ntmps7
    go_wp2_with (go_at_call 8; (with_reducible refine (HSH.out _).mono ?_); rintro e w1 ⟨rfl, hb1⟩; have HB1 := Lib.hid hb1; clear hb1)
    have HA0 : Hid (CmS w1 (.slice (some ⟨w1.heap.size, 0, none⟩) 0 0) [] (w1.alloc (.cells #[] 3))) := ⟨fbelow_box_s _ _, cowns_empty w1 3 1⟩
    go_loopw [6, 7, 8] (fun t o i wr => ∃ k : Nat, k ≤ m ∧ i = .int .i64 (k : Int) ∧ t = .string ⟨(txtW q 0 (want.take k)).toArray⟩ ∧ CmS w1 o (want.take k) wr) (fun _ _ i _ => m - (intOf i).toNat)
    case atStart => exact ⟨0, Nat.zero_le _, rfl, rfl, HA0.out⟩
    case round =>
      obtain ⟨k, hk, rfl, rfl, hS⟩ := hrel
      have HS := Lib.hid hS
      have hB := HB1.out.trans (hS.below.mono HB1.out.size)
      clear HA0 hS
      by_cases hlt : k < m
      · obtain ⟨x, hp⟩ : ∃ z, l[k]? = some z := ⟨_, List.getElem?_eq_getElem (by have := HN.out; omega)⟩
        have hne : l ≠ [] := fun e => by rw [e] at hp; simp at hp
        obtain ⟨b, off, rfl, hb, hc⟩ := HV.out.resolve_left hne
        have e0 := (hB.cell (p := ⟨b, _, none⟩) hb).trans (hc k x hp)
        have hx := HRG.out x (List.mem_of_getElem? hp)
        have hw2 := HWG.out k x hp
        have hbd := HWT.out _ (List.mem_of_getElem? hw2)
        have HT := Lib.hid (HTX.out k _ hw2)
        have HK := Lib.hid (HTK.out k _ hw2)
        have hzl := HTL.out k
        have hits := itoa_short hbd.1 hbd.2
        have hlen : (want.take k).length = k := by rw [List.length_take]; have := HWL.out; omega
        have HLN := Lib.hid hlen
        have HNK := Lib.hid fun W => HNU.out _ W hbd.1 hbd.2
        have hki : (k : Int) < (m : Int) := by omega
        have hkb : k ≤ 60 := by omega
        have hx1 := hx.1
        have hx2 := hx.2
        obtain ⟨z, hz⟩ : ∃ z, x.tmod 100000001 = z := ⟨_, rfl⟩
        rw [hz] at HT HK HNK hbd hits
        have HZ := Lib.hid hz
        have hb1 := hbd.1
        have hb2 := hbd.2
        clear hp hne hc hw2 hx hbd hlen
        generalize txtW q 0 (want.take k) = T at *
        generalize want.take k = Q at *
        have hml : k + 1 ≤ maxLen := by unfold maxLen; omega
        have hml2 : (k + 1) * 8 ≤ 140737488355328 := by omega
        have hG1 := (HS.out.next (fbelow_box_s wr (.cells #[.int .i64 z] 3))).row
        rw [HLN.out] at hG1
        have HG1 := Lib.hid hG1
        have HG3 : Hid (∀ v' w5, w5.ownsRow w1.heap.size 3 1 v' (k + 1) (Q.map intV ++ [.int .i64 z]) → (wr.alloc (.cells #[.int .i64 z] 3)).grownBy w5 u7.ownBlock → CmS w1 v' (Q ++ [z]) w5) := fun v' w5 h1 h2 => (HS.out.next (fbelow_box_s wr _)).grow h2 (by rw [List.map_append, List.length_append, HLN.out]; exact h1)
        have hsz := HS.out.below.size
        have hTs : (⟨T.toArray⟩ : ByteArray).size = T.length := rfl
        have hIs : (⟨(Lib.itoa z).toArray⟩ : ByteArray).size = (Lib.itoa z).length := rfl
        have s1 : ¬ 9223372036854775807 < (⟨T.toArray⟩ : ByteArray).size + (⟨(Lib.itoa z).toArray⟩ : ByteArray).size := by rw [hTs, hIs]; omega
        clear hG1 hB hTs hIs
        by_cases hmod : k % q = q - 1
        · have d : ((k : Int) % (q : Int) == (q : Int) - 1) = true := by rw [beq_iff_eq, ← Int.natCast_emod, hmod]; omega
          have HSP : Hid (sepW q k = [32, 13, 10, 10]) := if_pos hmod
          clear hmod
          go_wp2_with (first
            | (at_builtin; refine wpList_append_own _ rfl _ _ 38 rfl w1.heap.size 3 i0 (.int .i64 0) 1 8 Try.underlying38 HI.out hz0 hz1 hz2 rfl (by decide) u7 k (Q.map intV) rfl HG1.out ⟨wr.heap.size, 0, none⟩ 1 1 [.int .i64 z] rfl rfl (fun j u h => cells_arr_s _ _ _ j u h) (by simp [Value.oneCell']) hml hml2 (by simp; omega) ?_; intro v' w5 hown' hgrow _; have HS7 := Lib.hid (HG3.out v' w5 hown' hgrow); clear hown' hgrow)
            | (go_at_call 26; (with_reducible refine (HNK.out _).mono ?_); rintro e w6 ⟨rfl, hb6⟩; have HS8 := Lib.hid (HS7.out.next hb6); clear hb6))
          go_roundw
          case rel => exact ⟨k + 1, by omega, by go_num, by rw [HT.out, HSP.out, catB T (Lib.itoa z)]; exact congrArg Value.string (catB (T ++ Lib.itoa z) [32, 13, 10, 10]), by rw [HK.out]; exact HS8.out⟩
          case measure => simp [intOf]; omega
        · have d : ((k : Int) % (q : Int) == (q : Int) - 1) = false := by rw [beq_eq_false_iff_ne, ← Int.natCast_emod]; omega
          have HSP : Hid (sepW q k = [9, 32]) := if_neg hmod
          clear hmod
          go_wp2_with (first
            | (at_builtin; refine wpList_append_own _ rfl _ _ 38 rfl w1.heap.size 3 i0 (.int .i64 0) 1 8 Try.underlying38 HI.out hz0 hz1 hz2 rfl (by decide) u7 k (Q.map intV) rfl HG1.out ⟨wr.heap.size, 0, none⟩ 1 1 [.int .i64 z] rfl rfl (fun j u h => cells_arr_s _ _ _ j u h) (by simp [Value.oneCell']) hml hml2 (by simp; omega) ?_; intro v' w5 hown' hgrow _; have HS7 := Lib.hid (HG3.out v' w5 hown' hgrow); clear hown' hgrow)
            | (go_at_call 26; (with_reducible refine (HNK.out _).mono ?_); rintro e w6 ⟨rfl, hb6⟩; have HS8 := Lib.hid (HS7.out.next hb6); clear hb6))
          go_roundw
          case rel => exact ⟨k + 1, by omega, by go_num, by rw [HT.out, HSP.out, catB T (Lib.itoa z)]; exact congrArg Value.string (catB (T ++ Lib.itoa z) [9, 32]), by rw [HK.out]; exact HS8.out⟩
          case measure => simp [intOf]; omega
      · obtain rfl : k = m := by omega
        have hta : want.take k = want := by have := HWL.out; rw [← this, List.take_length]
        rw [hta] at HS ⊢
        have hrow := HS.out.row
        rw [HWL.out] at hrow
        obtain ⟨ao, co, rfl⟩ := owns_slice_s hrow
        have HIW : Hid (HasInts wr (.slice ao k co) want) := by have := hasInts_of_owns HS.out.row; exact this
        have HB := Lib.hid hB
        generalize (⟨(txtW q 0 want).toArray⟩ : ByteArray) = TS at *
        generalize rowsE TS 0 = lr at *
        have hfl := HTO.out.flat
        rw [HWL.out] at hfl
        have HFL2 := Lib.hid fun u W h => HFL.out (k : Int) u W (by omega) h
        simp only [Int.toNat_natCast, hfl] at HFL2
        have hlr := HTO.out.len
        rw [HWL.out] at hlr
        obtain ⟨R, hR⟩ : ∃ R, lr.length = R := ⟨_, rfl⟩
        have HRR := Lib.hid hR
        rw [hR] at HFL2 hlr
        have HLR := Lib.hid hlr
        have HIN := Lib.hid fun v u W hv hu => Try.RInts_calls v u want want W (by have := HWL.out; omega) hv hu
        simp only [decide_true] at HIN
        have d17 : ((R : Int) != ((k : Int) + (q : Int) - 1) / (q : Int)) = false := by
          rw [bne_eq_false_iff_eq, HLR.out, Int.natCast_ediv]
          congr 1
          omega
        clear hlt hk hta hB hfl HFL hR hlr HTX HTL HWG HTK HNU HWT HRG HTZ hrow
        go_wp2_with (first
          | (go_at_call 9; (with_reducible refine (HRW.out _).mono ?_); rintro e w2 ⟨v2, rfl, hv2, hb2⟩; have HB2 := Lib.hid (HB.out.trans (hb2.mono HB.out.size)); have HV2 := Lib.hid hv2; have HW2 := Lib.hid (HIW.out.next hb2); obtain ⟨av2, cv2, rfl, _⟩ := hv2.dat; rw [HRR.out] at HV2 ⊢; clear hb2 hv2)
          | (go_at_call 21; (with_reducible refine (HFL2.out _ _ HV2.out).mono ?_); rintro e w3 ⟨v3, rfl, hv3, hb3⟩; have hbx := fbelow_box_s w3 (.cells #[.int .i64 0, .int .i64 0] 41); have HB3 := Lib.hid ((HB2.out.trans (hb3.mono HB2.out.size)).trans (hbx.mono (HB2.out.trans (hb3.mono HB2.out.size)).size)); have HV3 := Lib.hid ((HV2.out.later hb3).later hbx); have HI3 := Lib.hid (hv3.next hbx); have HW3 := Lib.hid ((HW2.out.next hb3).next hbx); have HD3 : Hid (ZbX w3.heap.size (w3.alloc (.cells #[.int .i64 0, .int .i64 0] 41))) := World.alloc_heap_new _ _; obtain ⟨a3, c3, rfl⟩ := hv3.len; clear hb3 hv3 hbx)
          | (go_at_call 19; (with_reducible refine (HIN.out _ _ _ HI3.out HW3.out).mono ?_); rintro e w4 ⟨rfl, hb4⟩; have HB4 := Lib.hid (HB3.out.trans (hb4.mono HB3.out.size)); have HV4 := Lib.hid (HV3.out.later hb4); have HW4 := Lib.hid (HW3.out.next hb4); obtain ⟨p0, p1⟩ := (HD3.out.next hb4).cells; clear hb4))
        go_loopw [14] (fun i wr => ∃ j : Nat, j ≤ R ∧ i = .int .i64 (j : Int) ∧ Below w4.heap.size w4 wr) (fun i _ => R - (intOf i).toNat)
        case atStart => exact ⟨0, Nat.zero_le _, rfl, Below.refl _ _⟩
        case round =>
          obtain ⟨j, hj, rfl, hB4⟩ := hrel
          by_cases hjR : j < R
          · obtain ⟨⟨f, P⟩, hp⟩ : ∃ z, lr[j]? = some z := ⟨_, List.getElem?_eq_getElem (by have := HRR.out; omega)⟩
            have hne : lr ≠ [] := fun e => by rw [e] at hp; simp at hp
            obtain ⟨ao2, co2, e2, hd2⟩ := HV4.out.dat
            rw [HRR.out] at e2
            cases e2
            obtain ⟨g, rfl, hg, hc1⟩ := hd2.resolve_left hne
            obtain ⟨x0, u1, x1, wd1⟩ := hc1 j _ hp
            have HW1 := Lib.hid wd1
            obtain ⟨a1, c1, rfl, _⟩ := wd1
            have hmem := List.mem_of_getElem? hp
            obtain ⟨t1, t2⟩ := HTO.out.row j _ hp
            -- the part of the numbers
            obtain ⟨A, hA⟩ : ∃ A, j * q = A := ⟨_, rfl⟩
            have hlrv := HLR.out
            have hAk : A < k := by
              have h2 : j + 1 ≤ (k + q - 1) / q := by omega
              have h3 := (Nat.le_div_iff_mul_le (by omega)).1 h2
              rw [Nat.succ_mul, hA] at h3
              omega
            obtain ⟨E, hE⟩ : ∃ E, min k (A + q) = E := ⟨_, rfl⟩
            have hAE : A ≤ E := by omega
            have hEk : E ≤ k := by omega
            have hPL : ((want.drop (j * q)).take q).length = E - A := by rw [List.length_take, List.length_drop, HWL.out, hA]; omega
            have hPE : (want.drop (j * q)).take q = (want.drop A).take (E - A) := by
              rw [hA]
              by_cases h3 : A + q ≤ k
              · rw [show E - A = q from by omega]
              · rw [List.take_of_length_le (by rw [List.length_drop, HWL.out]; omega), List.take_of_length_le (by rw [List.length_drop, HWL.out]; omega)]
            rw [hPL] at t1 t2
            rw [hPE] at t1
            have hPT : ((want.drop A).take (E - A)).length = E - A := by rw [← hPE]; exact hPL
            obtain ⟨bo, oo, rfl, hco, hcut⟩ := ints_cut HW4.out HWL.out (show A < k from hAk) hAE hEk
            have hm1 : (j : Int) * (q : Int) = (A : Int) := by rw [← hA]; exact (Int.natCast_mul j q).symm
            have hm2 : min (k : Int) ((A : Int) + (q : Int)) = (E : Int) := by omega
            have hAi : (A : Int) ≤ 60 := by omega
            have hji : (j : Int) < (R : Int) := by omega
            have hjb : j ≤ 60 := by
              have := Nat.le_mul_of_pos_right j hq1
              omega
            have HPT := Lib.hid hPT
            have HCUT := Lib.hid hcut
            have HB := Lib.hid hB4
            have hAE2 : (A : Int) ≤ (E : Int) := by omega
            have hEc : (E : Int) ≤ (co : Int) := by omega
            have HIX1 : Hid (∀ W, Below w4.heap.size w4 W → Calls Try.prog 15 #[.string TS, .agg #[.int .i64 (f : Nat), .slice a1 P.length c1], .int .i64 ((E - A : Nat) : Int)] W fun e w' => ∃ v, e = .returned (.tuple #[v, .agg #[.int .i64 0, .int .i64 0]]) ∧ HasInts w' v ((want.drop A).take (E - A)) ∧ Below W.heap.size W w') := fun W hW => by
              have := HIS.out (f, P) ((E - A : Nat) : Int) _ W hmem (HW1.out.later hW)
              rw [t1] at this
              exact this
            have HIX2 : Hid (∀ W, Below w4.heap.size w4 W → Calls Try.prog 15 #[.string TS, .agg #[.int .i64 (f : Nat), .slice a1 P.length c1], .int .i64 (((E - A : Nat) : Int) + 1)] W fun e w' => ∃ v, e = .returned (.tuple #[v, .agg #[.int .i64 (f : Nat), .int .i64 3]]) ∧ HasInts w' v [] ∧ Below W.heap.size W w') := fun W hW => by
              have := HIS.out (f, P) (((E - A : Nat) : Int) + 1) _ W hmem (HW1.out.later hW)
              rw [t2] at this
              exact this
            generalize (want.drop A).take (E - A) = PT at *
            obtain ⟨D, hD⟩ : ∃ D, E - A = D := ⟨_, rfl⟩
            have HDD := Lib.hid hD
            have HKC : Hid (∀ V, Below w4.heap.size w4 V → V.cell? ⟨g, j * 2, none⟩ = some (.int .i64 (f : Nat)) ∧ V.cell? ⟨g, j * 2 + 1, none⟩ = some (.slice a1 P.length c1)) := fun V hV => ⟨(hV.cell (p := ⟨g, _, none⟩) hg).trans x0, (hV.cell (p := ⟨g, _, none⟩) hg).trans x1⟩
            obtain ⟨e0, e1⟩ := HKC.out _ hB4
            clear hp hne hd2 hc1 HW1 hmem t1 t2 hA hlrv hE hPL hPE hPT hcut hB4 x0 x1 p0 p1
            rw [hD] at HIX1 HIX2 HPT HCUT
            have HQ : Hid (∀ v W, HasInts W v PT → HasInts W (.slice (some ⟨bo, oo + A, none⟩) D (co - A)) PT → Calls Try.prog 19 #[v, .slice (some ⟨bo, oo + A, none⟩) D (co - A)] W fun e w' => e = .returned (.bool true) ∧ Below W.heap.size W w') := fun v W h1 h2 => by
              have := Try.RInts_calls v _ PT PT W (by have := HPT.out; omega) h1 h2
              simpa only [decide_true] using this
            go_wp2_with (first
              | (go_at_call 15; (with_reducible refine (HIX1.out _ HB.out).mono ?_); rintro e w6 ⟨v6, rfl, hv6, hb6⟩; have hbx := fbelow_box_s w6 (.cells #[.int .i64 0, .int .i64 0] 41); have hB6 := (HB.out.trans (hb6.mono HB.out.size)).trans (hbx.mono (HB.out.trans (hb6.mono HB.out.size)).size); have HB6 := Lib.hid hB6; have HI6 := Lib.hid (hv6.next hbx); have HC6 := Lib.hid ((HCUT.out.next HB.out).next hb6 |>.next hbx); have HD6 : Hid (ZbX w6.heap.size (w6.alloc (.cells #[.int .i64 0, .int .i64 0] 41))) := World.alloc_heap_new _ _; clear e0 e1; obtain ⟨e0, e1⟩ := HKC.out _ hB6; obtain ⟨a6, c6, rfl⟩ := hv6.len; clear hb6 hv6 hbx hB6)
              | (go_at_call 15; (with_reducible refine (HIX2.out _ HB6.out).mono ?_); rintro e w7 ⟨v7, rfl, hv7, hb7⟩; have hbx := fbelow_box_s w7 (.cells #[.int .i64 (f : Nat), .int .i64 3] 41); have hB7 := (HB6.out.trans (hb7.mono HB6.out.size)).trans (hbx.mono (HB6.out.trans (hb7.mono HB6.out.size)).size); have HB7 := Lib.hid hB7; have HI7 := Lib.hid ((HI6.out.next hb7).next hbx); have HC7 := Lib.hid ((HC6.out.next hb7).next hbx); have HE6 := Lib.hid ((HD6.out.next hb7).next hbx); have HD7 := Lib.hid (DgX.new w7 f 3); clear e0 e1; have e0 := (HKC.out _ hB7).1; have hgl := Nat.lt_of_lt_of_le hg hB7.size; obtain ⟨a7, c7, rfl⟩ := hv7.len; clear hb7 hv7 hbx hB7))
            obtain ⟨Y, hY⟩ : ∃ Y, Y = w7.alloc (.cells #[.int .i64 (f : Nat), .int .i64 3] 41) := ⟨_, rfl⟩
            rw [← hY] at HB7 HI7 HC7 HE6 HD7 e0 hgl ⊢
            clear hY
            have HS2 : Hid (∀ V, Below Y.heap.size Y V → (fun V => V.cell? ⟨w6.heap.size, 0, none⟩ = some (.int .i64 0) ∧ V.cell? ⟨w6.heap.size, 1, none⟩ = some (.int .i64 0) ∧ V.cell? ⟨w7.heap.size, 0, none⟩ = some (.int .i64 (f : Nat)) ∧ V.cell? ⟨w7.heap.size, 1, none⟩ = some (.int .i64 3) ∧ V.cell? ⟨g, j * 2, none⟩ = some (.int .i64 (f : Nat))) V) := fun V hV => ⟨((HE6.out.next hV).cells).1, ((HE6.out.next hV).cells).2, ((HD7.out.next hV).cells).1, ((HD7.out.next hV).cells).2, (hV.cell (p := ⟨g, _, none⟩) hgl).trans e0⟩
            have HQQ := Lib.hid fun V (hV : Below Y.heap.size Y V) => HQ.out _ V (HI7.out.next hV) (HC7.out.next hV)
            have N0 := below_drew_s (Below.refl Y.heap.size Y)
            refine wp_region_held_drew (S := fun V => V.cell? ⟨w6.heap.size, 0, none⟩ = some (.int .i64 0) ∧ V.cell? ⟨w6.heap.size, 1, none⟩ = some (.int .i64 0) ∧ V.cell? ⟨w7.heap.size, 0, none⟩ = some (.int .i64 (f : Nat)) ∧ V.cell? ⟨w7.heap.size, 1, none⟩ = some (.int .i64 3) ∧ V.cell? ⟨g, j * 2, none⟩ = some (.int .i64 (f : Nat))) (by kernel_rfl) (HS2.out _ N0) (fun hHeld0 => ?_)
            clear hHeld0
            generalize Y.drew = V0 at *
            refine wpAnyH_take (i := 0) (v := ?_) rfl (by kernel_rfl) (by kernel_rfl) (by kernel_rfl) (fun _ _ _ h => h) (Or.inl ⟨by kernel_rfl, ?_⟩) (HS2.out _ N0) ?_
            rotate_left
            · (intro w0 hSw; (try dsimp only at hSw); obtain ⟨s0, s1, s2, s3, s4⟩ := hSw; go_simp; try with_reducible rfl)
            try dsimp only [List.getElem_toArray, List.getElem_cons_succ, List.getElem_cons_zero, Act.put]
            try simp only [List.setIfInBounds_toArray, List.set_cons_zero, List.set_cons_succ]
            refine wpAnyH_take (i := 1) (v := ?_) rfl (by kernel_rfl) (by kernel_rfl) (by kernel_rfl) (fun _ _ _ h => h) (Or.inl ⟨by kernel_rfl, ?_⟩) (HS2.out _ N0) ?_
            rotate_left
            · (intro w0 hSw; (try dsimp only at hSw); obtain ⟨s0, s1, s2, s3, s4⟩ := hSw; go_simp; try with_reducible rfl)
            try dsimp only [List.getElem_toArray, List.getElem_cons_succ, List.getElem_cons_zero, Act.put]
            try simp only [List.setIfInBounds_toArray, List.set_cons_zero, List.set_cons_succ]
            refine wpAnyH_ready (rs := [2]) (by kernel_rfl) (by simp) (AllReadyH.cons rfl (fun KK hKK => ?_) AllReadyH.nil)
            go_simp
            go_at_call 19
            (with_reducible refine (HQQ.out _ N0).mono ?_)
            rintro e W2 ⟨rfl, hbq⟩
            have N1 := N0.trans (hbq.mono N0.size)
            refine hKK.out _ _ (HS2.out _ N1) (fun _ => ?_)
            clear hKK KK
            try dsimp only [List.getElem_toArray, List.getElem_cons_succ, List.getElem_cons_zero, Act.put]
            try simp only [List.setIfInBounds_toArray, List.set_cons_zero, List.set_cons_succ]
            clear N0 hbq
            refine wpAnyH_take (i := 3) (v := ?_) rfl (by kernel_rfl) (by kernel_rfl) (by kernel_rfl) (fun _ _ _ h => h) (Or.inl ⟨by kernel_rfl, ?_⟩) (HS2.out _ N1) ?_
            rotate_left
            · (intro w0 hSw; (try dsimp only at hSw); obtain ⟨s0, s1, s2, s3, s4⟩ := hSw; go_simp; try with_reducible rfl)
            try dsimp only [List.getElem_toArray, List.getElem_cons_succ, List.getElem_cons_zero, Act.put]
            try simp only [List.setIfInBounds_toArray, List.set_cons_zero, List.set_cons_succ]
            refine wpAnyH_take (i := 4) (v := ?_) rfl (by kernel_rfl) (by kernel_rfl) (by kernel_rfl) (fun _ _ _ h => h) (Or.inl ⟨by kernel_rfl, ?_⟩) (HS2.out _ N1) ?_
            rotate_left
            · (intro w0 hSw; (try dsimp only at hSw); obtain ⟨s0, s1, s2, s3, s4⟩ := hSw; go_simp; try with_reducible rfl)
            try dsimp only [List.getElem_toArray, List.getElem_cons_succ, List.getElem_cons_zero, Act.put]
            try simp only [List.setIfInBounds_toArray, List.set_cons_zero, List.set_cons_succ]
            refine wpAnyH_take (i := 5) (v := ?_) rfl (by kernel_rfl) (by kernel_rfl) (by kernel_rfl) (fun _ _ _ h => h) (Or.inl ⟨by kernel_rfl, ?_⟩) (HS2.out _ N1) ?_
            rotate_left
            · (intro w0 hSw; (try dsimp only at hSw); obtain ⟨s0, s1, s2, s3, s4⟩ := hSw; go_simp; try with_reducible rfl)
            try dsimp only [List.getElem_toArray, List.getElem_cons_succ, List.getElem_cons_zero, Act.put]
            try simp only [List.setIfInBounds_toArray, List.set_cons_zero, List.set_cons_succ]
            refine wpAnyH_take (i := 6) (v := ?_) rfl (by kernel_rfl) (by kernel_rfl) (by kernel_rfl) (fun _ _ _ h => h) (Or.inl ⟨by kernel_rfl, ?_⟩) (HS2.out _ N1) ?_
            rotate_left
            · (intro w0 hSw; (try dsimp only at hSw); obtain ⟨s0, s1, s2, s3, s4⟩ := hSw; go_simp; try with_reducible rfl)
            try dsimp only [List.getElem_toArray, List.getElem_cons_succ, List.getElem_cons_zero, Act.put]
            try simp only [List.setIfInBounds_toArray, List.set_cons_zero, List.set_cons_succ]
            refine wpAnyH_take (i := 7) (v := .bool false) rfl (by kernel_rfl) (by kernel_rfl) (by kernel_rfl) (fun _ _ _ h => h) (Or.inl ⟨by kernel_rfl, ?_⟩) (HS2.out _ N1) ?_
            · (intro w0 hSw; (try dsimp only at hSw); obtain ⟨s0, s1, s2, s3, s4⟩ := hSw; go_simp <;> first | rfl | simp)
            try dsimp only [List.getElem_toArray, List.getElem_cons_succ, List.getElem_cons_zero, Act.put]
            try simp only [List.setIfInBounds_toArray, List.set_cons_zero, List.set_cons_succ]
            refine wpAnyH_take (i := 8) (v := ?_) rfl (by kernel_rfl) (by kernel_rfl) (by kernel_rfl) (fun _ _ _ h => h) (Or.inl ⟨by kernel_rfl, ?_⟩) (HS2.out _ N1) ?_
            rotate_left
            · (intro w0 hSw; (try dsimp only at hSw); obtain ⟨s0, s1, s2, s3, s4⟩ := hSw; go_simp; try with_reducible rfl)
            try dsimp only [List.getElem_toArray, List.getElem_cons_succ, List.getElem_cons_zero, Act.put]
            try simp only [List.setIfInBounds_toArray, List.set_cons_zero, List.set_cons_succ]
            refine wpAnyH_take (i := 9) (v := ?_) rfl (by kernel_rfl) (by kernel_rfl) (by kernel_rfl) (fun _ _ _ h => h) (Or.inl ⟨by kernel_rfl, ?_⟩) (HS2.out _ N1) ?_
            rotate_left
            · (intro w0 hSw; (try dsimp only at hSw); obtain ⟨s0, s1, s2, s3, s4⟩ := hSw; go_simp; try with_reducible rfl)
            try dsimp only [List.getElem_toArray, List.getElem_cons_succ, List.getElem_cons_zero, Act.put]
            try simp only [List.setIfInBounds_toArray, List.set_cons_zero, List.set_cons_succ]
            refine wpAnyH_take (i := 10) (v := ?_) rfl (by kernel_rfl) (by kernel_rfl) (by kernel_rfl) (fun _ _ _ h => h) (Or.inl ⟨by kernel_rfl, ?_⟩) (HS2.out _ N1) ?_
            rotate_left
            · (intro w0 hSw; (try dsimp only at hSw); obtain ⟨s0, s1, s2, s3, s4⟩ := hSw; go_simp; try with_reducible rfl)
            try dsimp only [List.getElem_toArray, List.getElem_cons_succ, List.getElem_cons_zero, Act.put]
            try simp only [List.setIfInBounds_toArray, List.set_cons_zero, List.set_cons_succ]
            refine wpAnyH_take (i := 11) (v := ?_) rfl (by kernel_rfl) (by kernel_rfl) (by kernel_rfl) (fun _ _ _ h => h) (Or.inl ⟨by kernel_rfl, ?_⟩) (HS2.out _ N1) ?_
            rotate_left
            · (intro w0 hSw; (try dsimp only at hSw); obtain ⟨s0, s1, s2, s3, s4⟩ := hSw; go_simp; try with_reducible rfl)
            try dsimp only [List.getElem_toArray, List.getElem_cons_succ, List.getElem_cons_zero, Act.put]
            try simp only [List.setIfInBounds_toArray, List.set_cons_zero, List.set_cons_succ]
            refine wpAnyH_take (i := 12) (v := ?_) rfl (by kernel_rfl) (by kernel_rfl) (by kernel_rfl) (fun _ _ _ h => h) (Or.inl ⟨by kernel_rfl, ?_⟩) (HS2.out _ N1) ?_
            rotate_left
            · (intro w0 hSw; (try dsimp only at hSw); obtain ⟨s0, s1, s2, s3, s4⟩ := hSw; go_simp; try with_reducible rfl)
            try dsimp only [List.getElem_toArray, List.getElem_cons_succ, List.getElem_cons_zero, Act.put]
            try simp only [List.setIfInBounds_toArray, List.set_cons_zero, List.set_cons_succ]
            refine wpAnyH_take (i := 13) (v := ?_) rfl (by kernel_rfl) (by kernel_rfl) (by kernel_rfl) (fun _ _ _ h => h) (Or.inl ⟨by kernel_rfl, ?_⟩) (HS2.out _ N1) ?_
            rotate_left
            · (intro w0 hSw; (try dsimp only at hSw); obtain ⟨s0, s1, s2, s3, s4⟩ := hSw; go_simp; try with_reducible rfl)
            try dsimp only [List.getElem_toArray, List.getElem_cons_succ, List.getElem_cons_zero, Act.put]
            try simp only [List.setIfInBounds_toArray, List.set_cons_zero, List.set_cons_succ]
            refine wpAnyH_take (i := 14) (v := ?_) rfl (by kernel_rfl) (by kernel_rfl) (by kernel_rfl) (fun _ _ _ h => h) (Or.inl ⟨by kernel_rfl, ?_⟩) (HS2.out _ N1) ?_
            rotate_left
            · (intro w0 hSw; (try dsimp only at hSw); obtain ⟨s0, s1, s2, s3, s4⟩ := hSw; go_simp; try with_reducible rfl)
            try dsimp only [List.getElem_toArray, List.getElem_cons_succ, List.getElem_cons_zero, Act.put]
            try simp only [List.setIfInBounds_toArray, List.set_cons_zero, List.set_cons_succ]
            refine wpAnyH_take (i := 15) (v := ?_) rfl (by kernel_rfl) (by kernel_rfl) (by kernel_rfl) (fun _ _ _ h => h) (Or.inl ⟨by kernel_rfl, ?_⟩) (HS2.out _ N1) ?_
            rotate_left
            · (intro w0 hSw; (try dsimp only at hSw); obtain ⟨s0, s1, s2, s3, s4⟩ := hSw; go_simp; try with_reducible rfl)
            try dsimp only [List.getElem_toArray, List.getElem_cons_succ, List.getElem_cons_zero, Act.put]
            try simp only [List.setIfInBounds_toArray, List.set_cons_zero, List.set_cons_succ]
            refine wpAnyH_take (i := 16) (v := ?_) rfl (by kernel_rfl) (by kernel_rfl) (by kernel_rfl) (fun _ _ _ h => h) (Or.inl ⟨by kernel_rfl, ?_⟩) (HS2.out _ N1) ?_
            rotate_left
            · (intro w0 hSw; (try dsimp only at hSw); obtain ⟨s0, s1, s2, s3, s4⟩ := hSw; go_simp; try with_reducible rfl)
            try dsimp only [List.getElem_toArray, List.getElem_cons_succ, List.getElem_cons_zero, Act.put]
            try simp only [List.setIfInBounds_toArray, List.set_cons_zero, List.set_cons_succ]
            refine wpAnyH_take (i := 17) (v := .bool false) rfl (by kernel_rfl) (by kernel_rfl) (by kernel_rfl) (fun _ _ _ h => h) (Or.inl ⟨by kernel_rfl, ?_⟩) (HS2.out _ N1) ?_
            · (intro w0 hSw; (try dsimp only at hSw); obtain ⟨s0, s1, s2, s3, s4⟩ := hSw; go_simp <;> first | rfl | simp)
            try dsimp only [List.getElem_toArray, List.getElem_cons_succ, List.getElem_cons_zero, Act.put]
            try simp only [List.setIfInBounds_toArray, List.set_cons_zero, List.set_cons_succ]
            refine wpAnyH_take (i := 18) (v := ?_) rfl (by kernel_rfl) (by kernel_rfl) (by kernel_rfl) (fun _ _ _ h => h) (Or.inl ⟨by kernel_rfl, ?_⟩) (HS2.out _ N1) ?_
            rotate_left
            · (intro w0 hSw; (try dsimp only at hSw); obtain ⟨s0, s1, s2, s3, s4⟩ := hSw; go_simp; try with_reducible rfl)
            try dsimp only [List.getElem_toArray, List.getElem_cons_succ, List.getElem_cons_zero, Act.put]
            try simp only [List.setIfInBounds_toArray, List.set_cons_zero, List.set_cons_succ]
            refine wpAnyH_done (by kernel_rfl) ?_ _
            try dsimp only [List.getElem_toArray, List.getElem_cons_succ, List.getElem_cons_zero, Act.put]
            try simp only [List.setIfInBounds_toArray, List.set_cons_zero, List.set_cons_succ]
            go_wp2
            go_roundw
            case rel => exact ⟨j + 1, by omega, by go_num, HB7.out.trans (N1.mono HB7.out.size)⟩
            case measure => simp [intOf]; omega
          · obtain rfl : j = R := by omega
            clear hjR hj
            go_wp2
            go_ret
            exact ⟨rfl, HB4.out.trans (hB4.mono HB4.out.size)⟩
  · obtain ⟨m, hn⟩ : ∃ n, l.length = n := ⟨_, rfl⟩
    rw [hn] at h1 ⊢
    have n1 : (60 : Int) < (m : Int) := by omega
    clear h1 H hv1 hn hr
    go_enter Try.func7, Try.ntmps7
    go_wp2_with (go_at_call 8; (with_reducible refine (HSH.out _).mono ?_); rintro e w1 ⟨rfl, hb1⟩)
    go_ret
    exact ⟨rfl, hb1⟩
end Go.Proofs
