/- The law SheetCommon. Conditions: SheetC. -/
import Derived.Test.YtiedogcekalfjaaLawSheetNumbersM
import Derived.Test.YtiedogcekalfjaaG09
namespace Go.Sheet
open Go.Cur Go.Wds Go.Proofs Go.Fx
/-- Whether something is promised of a number. -/
def okP (p : Int × Int) : Prop := 0 ≤ p.2 ∧ p.2 ≤ 6 ∧ -1000000000000 ≤ p.1 ∧ p.1 ≤ 1000000000000
def natP (p : Int × Int) : Int × Nat := (p.1, p.2.toNat)
theorem okP_may {p : Int × Int} (h : okP p) : mayB (natP p).1 ((natP p).2 : Int) = true := by
  obtain ⟨h1, h2, h3, h4⟩ := h
  exact mayB_mk (by show (0 : Int) ≤ (p.2.toNat : Int); omega) (by show (p.2.toNat : Int) ≤ 6; omega) h3 h4
/-- What Common answers: as many as there are, or none. -/
structure CmR (l : List (Int × Nat)) (X : List Int) (S : Nat) (a : Int) : Prop where
  len : X.length ≤ l.length
  fin : (0 ≤ a ∧ a < (l.length : Int) ∧ X.length = 0) ∨ (a = -1 ∧ X.length = l.length)
  much : ∀ (i : Nat) (x : Int) (p : Int × Nat), X[i]? = some x → l[i]? = some p → mayB x (S : Int) = true ∧ cmpN x (S : Int) p.1 (p.2 : Int) = 0
theorem common_fine (l : List (Int × Nat)) (hm : ∀ p ∈ l, mayB p.1 (p.2 : Int) = true) : CmR l (commonE l).1 (commonE l).2.1 (commonE l).2.2 := by
  unfold commonE commonS
  by_cases h : l.findIdx (fun p => decide ((rdT (maxS l) p).2 ≠ 0)) < l.length
  · rw [if_pos h]
    exact ⟨Nat.zero_le _, .inl ⟨Int.natCast_nonneg _, Int.ofNat_lt.2 h, rfl⟩, fun i x p h1 _ => by simp at h1⟩
  · rw [if_neg h]
    refine ⟨by simp, .inr ⟨rfl, by simp⟩, fun i x p h1 h2 => ?_⟩
    rw [List.getElem?_map, h2] at h1
    have e := Option.some.inj h1
    have hi := (List.getElem?_eq_some_iff.1 h2).1
    have hp := (List.getElem?_eq_some_iff.1 h2).2
    have h0 : (rdT (maxS l) p).2 = 0 := by
      have h3 : l.length ≤ l.findIdx (fun p => decide ((rdT (maxS l) p).2 ≠ 0)) := by omega
      have := List.not_of_lt_findIdx (p := fun p => decide ((rdT (maxS l) p).2 ≠ 0)) (xs := l) (i := i) (by omega)
      rw [hp] at this
      simpa using this
    have hp6 : p.2 ≤ 6 := by have := (mayB_of (hm p (List.mem_of_getElem? h2))).2.1; omega
    have := to_much p.1 p.2 hp6 (maxS l : Int) (by rw [to_same]; exact h0)
    rw [to_same] at this
    simp only at e
    rw [← e]
    exact this
end Go.Sheet
namespace Go.Proofs
open Go.RowKit Go.Shelf Go.Cur Go.Wds Go.Sheet Go.Fx
attribute [local go_sem] Oper.semAt_some
/-- A slice that reads as these pairs. -/
def HasPrs (W : World) (v : Value) (l : List (Int × Int)) : Prop := ∃ ao cap, v = .slice ao l.length cap ∧ (l = [] ∨ ∃ b off, ao = some ⟨b, off, none⟩ ∧ l.length ≤ cap ∧ cap ≤ maxLen ∧ b < W.heap.size ∧ ∀ (i : Nat) (p : Int × Int), l[i]? = some p → W.cell? ⟨b, off + i * 2, none⟩ = some (.int .i64 p.1) ∧ W.cell? ⟨b, off + i * 2 + 1, none⟩ = some (.int .i64 p.2))
theorem HasPrs.nms {W W' : World} {v : Value} {l : List (Int × Int)} (h : HasPrs W v l) (ho : ∀ p ∈ l, okP p) (hb : Below W.heap.size W W') : HasNms W' v (l.map natP) := by
  obtain ⟨ao, cap, rfl, h⟩ := h
  rcases h with rfl | ⟨b, off, rfl, h1, h2, h3, h4⟩
  · exact .inl ⟨rfl, ao, cap, rfl⟩
  · refine .inr ⟨b, off, cap, by rw [List.length_map], by rw [List.length_map]; exact h1, h2, Nat.lt_of_lt_of_le h3 hb.size, fun i p hp => ?_⟩
    rw [List.getElem?_map] at hp
    cases hq : l[i]? with
    | none => rw [hq] at hp; cases hp
    | some q =>
      rw [hq] at hp
      obtain rfl := Option.some.inj hp
      obtain ⟨e0, e1⟩ := h4 i q hq
      have h0 := (ho q (List.mem_of_getElem? hq)).1
      refine ⟨(hb.cell (p := ⟨b, _, none⟩) h3).trans e0, ((hb.cell (p := ⟨b, _, none⟩) h3).trans e1).trans ?_⟩
      show some (Value.int .i64 q.2) = some (.int .i64 (q.2.toNat : Int))
      rw [Int.toNat_of_nonneg h0]
/-- What stands in the first loop. -/
structure ScS (w : World) (o : Value) (l : List (Int × Nat)) (W : World) : Prop where
  below : Below w.heap.size w W
  row : W.ownsRow w.heap.size 59 2 o l.length (l.flatMap nmC)
theorem ScS.next {w W W' : World} {o : Value} {l : List (Int × Nat)} (h : ScS w o l W) (hb : Below W.heap.size W W') : ScS w o l W' := ⟨h.below.trans (hb.mono h.below.size), ownsRow_below h.row hb (Nat.le_refl _)⟩
theorem ScS.grow {w W W' : World} {o o' : Value} {l l' : List (Int × Nat)} (h : ScS w o l W) (hg : W.grownBy W' o.ownBlock) (hr : W'.ownsRow w.heap.size 59 2 o' l'.length (l'.flatMap nmC)) : ScS w o' l' W' :=
  ⟨below_append_s h.below h.below.size h.row hg, hr⟩
theorem okP_snoc {l : List (Int × Int)} {k : Nat} {p : Int × Int} (h : l[k]? = some p) (ha : ∀ q ∈ l.take k, okP q) (hp : okP p) : ∀ q ∈ l.take (k + 1), okP q := by
  intro q hq
  rw [Go.Wds.take_get h, List.mem_append] at hq
  rcases hq with hq | hq
  · exact ha q hq
  · obtain rfl : q = p := by simpa using hq
    exact hp
set_option maxRecDepth 100000 in
set_option maxHeartbeats 8000000 in
theorem Try.SheetCommon_calls (H : Try.SheetC) (l : List (Int × Int)) (v : Value) (w : World) (hv : HasPrs w v l) : Calls Try.prog 6 #[v] w fun e w' => e = .returned (.bool true) ∧ Below w.heap.size w w' := by
  have HSH := Lib.hid fun W => Try.shown13_calls H W
  have HV := Lib.hid hv
  obtain ⟨av, cv, rfl, hv1⟩ := hv
  by_cases h1 : l.length ≤ 100
  · have HC1 := Lib.hid fun u W (hl : ∀ p ∈ l.map natP, mayB p.1 (p.2 : Int) = true) hu => H.common (l.map natP) u W (by rw [List.length_map]; exact h1) hl hu
    have HC2 := Lib.hid fun u W (hl : ∀ p ∈ l.map natP, mayB p.1 (p.2 : Int) = true) hu => Try.rCommon_calls (l.map natP) u W (by rw [List.length_map]; omega) hl hu
    have HFN := Lib.hid fun hl => common_fine (l.map natP) hl
    obtain ⟨i0, hio, hz0, hz1, hz2⟩ := info_parts Try.sinfo59
    have HI := Lib.hid hio
    have HW := Lib.hid hv1
    have HTK : Hid (∀ k p, l[k]? = some p → (l.take (k + 1)).map natP = (l.take k).map natP ++ [natP p]) := fun k p h => by rw [Go.Wds.take_get h, List.map_append]; rfl
    have HOK : Hid (∀ k p, l[k]? = some p → (∀ q ∈ l.take k, okP q) → okP p → ∀ q ∈ l.take (k + 1), okP q) := fun k p => okP_snoc
    obtain ⟨n, hn⟩ : ∃ n, l.length = n := ⟨_, rfl⟩
    have HN := Lib.hid hn
    have hl : n ≤ 100 := by omega
    have n1 : ¬ (100 : Int) < (n : Int) := by omega
    rw [hn]
    clear hn hv1 hio h1 H
    go_enter Try.func6, Try.ntmps6
    go_wp2_with (go_at_call 8; (with_reducible refine (HSH.out _).mono ?_); rintro e w1 ⟨rfl, hb1⟩; have HB1 := Lib.hid hb1; clear hb1)
    have HA0 : Hid (ScS w1 (.slice (some ⟨w1.heap.size, 0, none⟩) 0 0) [] (w1.alloc (.cells #[] 59))) := ⟨fbelow_box_s _ _, cowns_empty w1 59 2⟩
    go_loopw [3, 4] (fun o i wr => ∃ k : Nat, k ≤ n ∧ i = .int .i64 (k : Int) ∧ Hid (∀ q ∈ l.take k, okP q) ∧ ScS w1 o ((l.take k).map natP) wr) (fun _ i _ => n - (intOf i).toNat)
    case atStart => exact ⟨0, Nat.zero_le _, rfl, Lib.hid (fun q hq => by simp at hq), HA0.out⟩
    case round =>
      obtain ⟨k, hk, rfl, hG, hS⟩ := hrel
      have HS := Lib.hid hS
      have hB := HB1.out.trans (hS.below.mono HB1.out.size)
      clear HA0 hS
      by_cases hlt : k < n
      · obtain ⟨⟨x, y⟩, hp⟩ : ∃ q, l[k]? = some q := ⟨_, List.getElem?_eq_getElem (by have := HN.out; omega)⟩
        have hne : l ≠ [] := fun e => by rw [e] at hp; simp at hp
        obtain ⟨b, off, rfl, _, _, hb, h1⟩ := HW.out.resolve_left hne
        obtain ⟨e0, e1⟩ := h1 k _ hp
        replace e0 := (hB.cell (p := ⟨b, _, none⟩) hb).trans e0
        replace e1 := (hB.cell (p := ⟨b, _, none⟩) hb).trans e1
        simp only at e0 e1
        have hki : (k : Int) < (n : Int) := by omega
        have HB := Lib.hid hB
        have hkb : k ≤ 100 := by omega
        by_cases q1 : y < 0
        · clear hp hne h1 hB
          go_wp2
          go_ret
          exact ⟨rfl, HB.out⟩
        by_cases q2 : 6 < y
        · clear hp hne h1 hB
          go_wp2
          go_ret
          exact ⟨rfl, HB.out⟩
        by_cases q3 : x < -1000000000000
        · clear hp hne h1 hB
          go_wp2
          go_ret
          exact ⟨rfl, HB.out⟩
        by_cases q4 : 1000000000000 < x
        · clear hp hne h1 hB
          go_wp2
          go_ret
          exact ⟨rfl, HB.out⟩
        have HO := Lib.hid (HOK.out k _ hp hG.out ⟨by show 0 ≤ y; omega, by show y ≤ 6; omega, by show _ ≤ x; omega, by show x ≤ _; omega⟩)
        have HT := Lib.hid (HTK.out k _ hp)
        have hnp : natP (x, y) = (x, y.toNat) := rfl
        obtain ⟨yn, hyn⟩ : ∃ m : Nat, y = (m : Int) := ⟨y.toNat, by omega⟩
        subst hyn
        rw [hnp, Int.toNat_natCast] at HT
        have hlen : ((l.take k).map natP).length = k := by rw [List.length_map, List.length_take]; have := HN.out; omega
        have HLN := Lib.hid hlen
        generalize (l.take k).map natP = Z at *
        have hml : k + 1 ≤ maxLen := by unfold maxLen; omega
        have hml2 : (k + 1) * 16 ≤ 140737488355328 := by omega
        have hG1 := (HS.out.next (fbelow_box_s wr (.cells #[.int .i64 x, .int .i64 (yn : Nat)] 59))).row
        rw [hlen] at hG1
        have HG1 := Lib.hid hG1
        have HG3 : Hid (∀ v' w5, w5.ownsRow w1.heap.size 59 2 v' (k + 1) (Z.flatMap nmC ++ [.int .i64 x, .int .i64 (yn : Nat)]) → (wr.alloc (.cells #[.int .i64 x, .int .i64 (yn : Nat)] 59)).grownBy w5 u3.ownBlock → ScS w1 v' (Z ++ [(x, yn)]) w5) := fun v' w5 h1 h2 => (HS.out.next (fbelow_box_s wr _)).grow h2 (by rw [List.flatMap_append, List.length_append, HLN.out]; simpa [nmC] using h1)
        have hsz := HS.out.below.size
        clear hp hne h1 hB hnp hlen hG1
        go_wp2_with (at_builtin; refine wpList_append_own _ rfl _ _ 48 rfl w1.heap.size 59 i0 (.agg #[.int .i64 0, .int .i64 0]) 2 16 Try.underlying48 HI.out hz0 hz1 hz2 rfl (by decide) u3 k (Z.flatMap nmC) rfl HG1.out ⟨wr.heap.size, 0, none⟩ 1 1 [.int .i64 x, .int .i64 (yn : Nat)] rfl rfl (fun j u h => cells_arr_s _ _ _ j u h) (by simp [Value.oneCell']) hml hml2 (by simp; omega) ?_; intro v' w5 hown' hgrow _; have HS7 := Lib.hid (HG3.out v' w5 hown' hgrow); clear hown' hgrow)
        go_roundw
        case rel => exact ⟨k + 1, by omega, by go_num, HO, by rw [HT.out]; exact HS7.out⟩
        case measure => simp [intOf]; omega
      · obtain rfl : k = n := by omega
        have hall : ∀ q ∈ l, okP q := by have := hG.out; rw [← HN.out, List.take_length] at this; exact this
        have hmay : ∀ p ∈ l.map natP, mayB p.1 (p.2 : Int) = true := fun p hp => by
          obtain ⟨q, hq, rfl⟩ := List.mem_map.1 hp
          exact okP_may (hall q hq)
        have hnm := HV.out.nms hall hB
        have hrow := HS.out.row
        rw [← HN.out, List.take_length] at hrow
        have hm0 := nms_of_owns hrow
        have HM0 := Lib.hid hm0
        obtain ⟨ao3, co3, rfl⟩ := owns_slice_s hrow
        have HNM := Lib.hid hnm
        have HF := Lib.hid (HFN.out hmay)
        have HD1 := Lib.hid fun u W hu => HC1.out u W hmay hu
        have HD2 := Lib.hid fun u W hu => HC2.out u W hmay hu
        have hll : (l.map natP).length = k := by rw [List.length_map]; exact HN.out
        have HB := Lib.hid hB
        generalize commonE (l.map natP) = R at *
        obtain ⟨X, SS, at1⟩ := R
        try simp only at HF HD1 HD2
        have hmayL := Lib.hid hmay
        generalize l.map natP = Z at *
        have HXL : Hid (X.length ≤ 100) := Nat.le_trans HF.out.len (by omega)
        have HIN := Lib.hid fun v u W hv hu => Try.RInts_calls v u X X W (Nat.le_trans (m := 100) HXL.out (by decide)) hv hu
        simp only [decide_true] at HIN
        rw [HN.out] at HNM
        have HZL := Lib.hid hll
        rw [hll] at HM0 ⊢
        clear hlt hk hall hmay hnm hrow hm0 hB HC1 HC2 HFN HTK HOK hG HS hll
        go_wp2_with (first
          | (go_at_call 23; (with_reducible refine (HD1.out _ _ HNM.out).mono ?_); rintro e w2 ⟨v2, rfl, hv2, hb2⟩; have HB2 := Lib.hid (HB.out.trans (hb2.mono HB.out.size)); have HI2 := Lib.hid hv2; have HM2 := Lib.hid (HM0.out.later hb2); obtain ⟨a2, c2, rfl⟩ := hv2.len; clear hb2 hv2)
          | (go_at_call 24; (with_reducible refine (HD2.out _ _ HM2.out).mono ?_); rintro e w3 ⟨v3, rfl, hv3, hb3⟩; have HB3 := Lib.hid (HB2.out.trans (hb3.mono HB2.out.size)); have HI3 := Lib.hid hv3; have HJ2 := Lib.hid (HI2.out.next hb3); have HM3 := Lib.hid (HM2.out.later hb3); obtain ⟨a3, c3, rfl⟩ := hv3.len; clear hb3 hv3)
          | (go_at_call 19; (with_reducible refine (HIN.out _ _ _ HJ2.out HI3.out).mono ?_); rintro e w4 ⟨rfl, hb4⟩; have HB4 := Lib.hid (HB3.out.trans (hb4.mono HB3.out.size)); have HK2 := Lib.hid (HJ2.out.next hb4); have HM4 := Lib.hid (HM3.out.later hb4); clear hb4))
        have HXC : Hid (∀ (j : Nat) (z : Int), X[j]? = some z → ∃ bx ox, a2 = some ⟨bx, ox, none⟩ ∧ bx < w4.heap.size ∧ w4.cell? ⟨bx, ox + j, none⟩ = some (.int .i64 z)) := fun j z hz => by
          rcases HK2.out with ⟨rfl, _⟩ | ⟨b, off, c, e, _, _, hi⟩
          · simp at hz
          · cases e
            exact ⟨b, off, rfl, hi.1, hi.2 j z hz⟩
        have HMC : Hid (∀ (j : Nat) (p : Int × Nat), Z[j]? = some p → ∃ bm om, ao3 = some ⟨bm, om, none⟩ ∧ bm < w4.heap.size ∧ w4.cell? ⟨bm, om + j * 2, none⟩ = some (.int .i64 p.1) ∧ w4.cell? ⟨bm, om + j * 2 + 1, none⟩ = some (.int .i64 (p.2 : Nat))) := fun j p hp => by
          rcases HM4.out with ⟨rfl, _⟩ | ⟨b, off, c, e, _, _, h4, h5⟩
          · simp at hp
          · rw [HZL.out] at e
            cases e
            exact ⟨b, off, rfl, h4, h5 j p hp⟩
        have HCC : Hid (∀ (j : Nat) (z : Int) (p : Int × Nat) (W : World), X[j]? = some z → Z[j]? = some p → Calls Try.prog 25 #[.agg #[.int .i64 z, .int .i64 (SS : Int)], .agg #[.int .i64 p.1, .int .i64 (p.2 : Nat)]] W fun e w' => e = .returned (.int .i64 0) ∧ Below W.heap.size W w') := fun j z p W h1 h2 => by
          obtain ⟨k1, k2⟩ := HF.out.much j z p h1 h2
          have := Try.rCmp_any z (SS : Int) p.1 (p.2 : Int) k1 (hmayL.out p (List.mem_of_getElem? h2)) W
          rw [k2] at this
          exact this
        have hfin := HF.out.fin
        have hlen := HF.out.len
        rw [HZL.out] at hfin hlen
        obtain ⟨xn, hxn⟩ : ∃ m, X.length = m := ⟨_, rfl⟩
        have HXN := Lib.hid hxn
        rw [hxn] at hfin hlen ⊢
        have HFI := Lib.hid hfin
        clear hfin hxn HF HD1 HD2 HNM HM0 HIN HM2 HI2 HJ2 HM3 HI3 HK2 HM4 hmayL
        go_loopw [11] (fun i wr => ∃ j : Nat, j ≤ xn ∧ i = .int .i64 (j : Int) ∧ Below w4.heap.size w4 wr) (fun i _ => xn - (intOf i).toNat)
        case atStart => exact ⟨0, Nat.zero_le _, rfl, Below.refl _ _⟩
        case round =>
          obtain ⟨j, hj, rfl, hB⟩ := hrel
          by_cases hlt : j < xn
          · obtain ⟨z, hz⟩ : ∃ q, X[j]? = some q := ⟨_, List.getElem?_eq_getElem (by have := HXN.out; omega)⟩
            obtain ⟨⟨x, y⟩, hp⟩ : ∃ q, Z[j]? = some q := ⟨_, List.getElem?_eq_getElem (by have := HZL.out; omega)⟩
            obtain ⟨bx, ox, rfl, hbx, x0⟩ := HXC.out j z hz
            obtain ⟨bm, om, rfl, hbm, y0, y1⟩ := HMC.out j _ hp
            have HCM := Lib.hid fun W => HCC.out j z (x, y) W hz hp
            try simp only at HCM y0 y1
            have HKC : Hid (∀ V, Below w4.heap.size w4 V → (fun V => V.cell? ⟨bx, ox + j, none⟩ = some (.int .i64 z) ∧ V.cell? ⟨bm, om + j * 2, none⟩ = some (.int .i64 x) ∧ V.cell? ⟨bm, om + j * 2 + 1, none⟩ = some (.int .i64 (y : Nat))) V) := fun V hV => ⟨(hV.cell (p := ⟨bx, _, none⟩) hbx).trans x0, (hV.cell (p := ⟨bm, _, none⟩) hbm).trans y0, (hV.cell (p := ⟨bm, _, none⟩) hbm).trans y1⟩
            have hji : (j : Int) < (xn : Int) := by omega
            have hxk : (j : Int) < (k : Int) := by omega
            clear hz hp x0 y0 y1
            go_upto_region 17 with (fail)
            have N0 := below_drew_s hB
            refine wp_region_held_drew (S := fun V => V.cell? ⟨bx, ox + j, none⟩ = some (.int .i64 z) ∧ V.cell? ⟨bm, om + j * 2, none⟩ = some (.int .i64 x) ∧ V.cell? ⟨bm, om + j * 2 + 1, none⟩ = some (.int .i64 (y : Nat))) (by kernel_rfl) (HKC.out _ N0) (fun hHeld0 => ?_)
            clear hHeld0
            generalize wr.drew = V0 at *
            refine wpAnyH_take (i := 0) (v := ?_) rfl (by kernel_rfl) (by kernel_rfl) (by kernel_rfl) (fun _ _ _ h => h) (Or.inl ⟨by kernel_rfl, ?_⟩) (HKC.out _ N0) ?_
            rotate_left
            · (intro w0 hSw; (try dsimp only at hSw); obtain ⟨e0, e1, e2⟩ := hSw; go_simp; try with_reducible rfl)
            try dsimp only [List.getElem_toArray, List.getElem_cons_succ, List.getElem_cons_zero, Act.put]
            try simp only [List.setIfInBounds_toArray, List.set_cons_zero, List.set_cons_succ]
            refine wpAnyH_take (i := 1) (v := ?_) rfl (by kernel_rfl) (by kernel_rfl) (by kernel_rfl) (fun _ _ _ h => h) (Or.inl ⟨by kernel_rfl, ?_⟩) (HKC.out _ N0) ?_
            rotate_left
            · (intro w0 hSw; (try dsimp only at hSw); obtain ⟨e0, e1, e2⟩ := hSw; go_simp; try with_reducible rfl)
            try dsimp only [List.getElem_toArray, List.getElem_cons_succ, List.getElem_cons_zero, Act.put]
            try simp only [List.setIfInBounds_toArray, List.set_cons_zero, List.set_cons_succ]
            refine wpAnyH_take (i := 2) (v := ?_) rfl (by kernel_rfl) (by kernel_rfl) (by kernel_rfl) (fun _ _ _ h => h) (Or.inl ⟨by kernel_rfl, ?_⟩) (HKC.out _ N0) ?_
            rotate_left
            · (intro w0 hSw; (try dsimp only at hSw); obtain ⟨e0, e1, e2⟩ := hSw; go_simp; try with_reducible rfl)
            try dsimp only [List.getElem_toArray, List.getElem_cons_succ, List.getElem_cons_zero, Act.put]
            try simp only [List.setIfInBounds_toArray, List.set_cons_zero, List.set_cons_succ]
            refine wpAnyH_take (i := 3) (v := ?_) rfl (by kernel_rfl) (by kernel_rfl) (by kernel_rfl) (fun _ _ _ h => h) (Or.inl ⟨by kernel_rfl, ?_⟩) (HKC.out _ N0) ?_
            rotate_left
            · (intro w0 hSw; (try dsimp only at hSw); obtain ⟨e0, e1, e2⟩ := hSw; go_simp; try with_reducible rfl)
            try dsimp only [List.getElem_toArray, List.getElem_cons_succ, List.getElem_cons_zero, Act.put]
            try simp only [List.setIfInBounds_toArray, List.set_cons_zero, List.set_cons_succ]
            refine wpAnyH_take (i := 4) (v := ?_) rfl (by kernel_rfl) (by kernel_rfl) (by kernel_rfl) (fun _ _ _ h => h) (Or.inl ⟨by kernel_rfl, ?_⟩) (HKC.out _ N0) ?_
            rotate_left
            · (intro w0 hSw; (try dsimp only at hSw); obtain ⟨e0, e1, e2⟩ := hSw; go_simp; try with_reducible rfl)
            try dsimp only [List.getElem_toArray, List.getElem_cons_succ, List.getElem_cons_zero, Act.put]
            try simp only [List.setIfInBounds_toArray, List.set_cons_zero, List.set_cons_succ]
            refine wpAnyH_take (i := 5) (v := ?_) rfl (by kernel_rfl) (by kernel_rfl) (by kernel_rfl) (fun _ _ _ h => h) (Or.inl ⟨by kernel_rfl, ?_⟩) (HKC.out _ N0) ?_
            rotate_left
            · (intro w0 hSw; (try dsimp only at hSw); obtain ⟨e0, e1, e2⟩ := hSw; go_simp; try with_reducible rfl)
            try dsimp only [List.getElem_toArray, List.getElem_cons_succ, List.getElem_cons_zero, Act.put]
            try simp only [List.setIfInBounds_toArray, List.set_cons_zero, List.set_cons_succ]
            refine wpAnyH_take (i := 6) (v := ?_) rfl (by kernel_rfl) (by kernel_rfl) (by kernel_rfl) (fun _ _ _ h => h) (Or.inl ⟨by kernel_rfl, ?_⟩) (HKC.out _ N0) ?_
            rotate_left
            · (intro w0 hSw; (try dsimp only at hSw); obtain ⟨e0, e1, e2⟩ := hSw; go_simp; try with_reducible rfl)
            try dsimp only [List.getElem_toArray, List.getElem_cons_succ, List.getElem_cons_zero, Act.put]
            try simp only [List.setIfInBounds_toArray, List.set_cons_zero, List.set_cons_succ]
            refine wpAnyH_take (i := 7) (v := ?_) rfl (by kernel_rfl) (by kernel_rfl) (by kernel_rfl) (fun _ _ _ h => h) (Or.inl ⟨by kernel_rfl, ?_⟩) (HKC.out _ N0) ?_
            rotate_left
            · (intro w0 hSw; (try dsimp only at hSw); obtain ⟨e0, e1, e2⟩ := hSw; go_simp; try with_reducible rfl)
            try dsimp only [List.getElem_toArray, List.getElem_cons_succ, List.getElem_cons_zero, Act.put]
            try simp only [List.setIfInBounds_toArray, List.set_cons_zero, List.set_cons_succ]
            refine wpAnyH_take (i := 8) (v := ?_) rfl (by kernel_rfl) (by kernel_rfl) (by kernel_rfl) (fun _ _ _ h => h) (Or.inl ⟨by kernel_rfl, ?_⟩) (HKC.out _ N0) ?_
            rotate_left
            · (intro w0 hSw; (try dsimp only at hSw); obtain ⟨e0, e1, e2⟩ := hSw; go_simp; try with_reducible rfl)
            try dsimp only [List.getElem_toArray, List.getElem_cons_succ, List.getElem_cons_zero, Act.put]
            try simp only [List.setIfInBounds_toArray, List.set_cons_zero, List.set_cons_succ]
            refine wpAnyH_take (i := 9) (v := ?_) rfl (by kernel_rfl) (by kernel_rfl) (by kernel_rfl) (fun _ _ _ h => h) (Or.inl ⟨by kernel_rfl, ?_⟩) (HKC.out _ N0) ?_
            rotate_left
            · (intro w0 hSw; (try dsimp only at hSw); obtain ⟨e0, e1, e2⟩ := hSw; go_simp; try with_reducible rfl)
            try dsimp only [List.getElem_toArray, List.getElem_cons_succ, List.getElem_cons_zero, Act.put]
            try simp only [List.setIfInBounds_toArray, List.set_cons_zero, List.set_cons_succ]
            refine wpAnyH_ready (rs := [10]) (by kernel_rfl) (by simp) (AllReadyH.cons rfl (fun KK hKK => ?_) AllReadyH.nil)
            go_simp
            go_at_call 25
            (with_reducible refine (HCM.out _).mono ?_)
            rintro e W10 ⟨rfl, hb10⟩
            have N1 := N0.trans (hb10.mono N0.size)
            refine hKK.out _ _ (HKC.out _ N1) (fun _ => ?_)
            clear hKK KK
            try dsimp only [List.getElem_toArray, List.getElem_cons_succ, List.getElem_cons_zero, Act.put]
            try simp only [List.setIfInBounds_toArray, List.set_cons_zero, List.set_cons_succ]
            clear N0 hb10
            refine wpAnyH_take (i := 11) (v := .bool false) rfl (by kernel_rfl) (by kernel_rfl) (by kernel_rfl) (fun _ _ _ h => h) (Or.inl ⟨by kernel_rfl, ?_⟩) (HKC.out _ N1) ?_
            · (intro w0 hSw; (try dsimp only at hSw); obtain ⟨e0, e1, e2⟩ := hSw; go_simp <;> first | rfl | simp)
            try dsimp only [List.getElem_toArray, List.getElem_cons_succ, List.getElem_cons_zero, Act.put]
            try simp only [List.setIfInBounds_toArray, List.set_cons_zero, List.set_cons_succ]
            refine wpAnyH_done (by kernel_rfl) ?_ _
            try dsimp only [List.getElem_toArray, List.getElem_cons_succ, List.getElem_cons_zero, Act.put]
            try simp only [List.setIfInBounds_toArray, List.set_cons_zero, List.set_cons_succ]
            go_wp2
            go_roundw
            case rel => exact ⟨j + 1, by omega, by go_num, N1⟩
            case measure => simp [intOf]; omega
          · obtain rfl : j = xn := by omega
            clear hlt hj
            rcases HFI.out with ⟨g1, g2, g3⟩ | ⟨g1, g2⟩
            · subst g3
              go_wp2
              go_ret
              exact ⟨by simp, HB4.out.trans (hB.mono HB4.out.size)⟩
            · subst g1
              subst g2
              go_wp2
              go_ret
              exact ⟨by simp, HB4.out.trans (hB.mono HB4.out.size)⟩
  · obtain ⟨n, hn⟩ : ∃ n, l.length = n := ⟨_, rfl⟩
    rw [hn] at h1 ⊢
    have n1 : (100 : Int) < (n : Int) := by omega
    clear h1 H HV hv1 hn
    go_enter Try.func6, Try.ntmps6
    go_wp2_with (go_at_call 8; (with_reducible refine (HSH.out _).mono ?_); rintro e w1 ⟨rfl, hb1⟩)
    go_ret
    exact ⟨rfl, hb1⟩
end Go.Proofs
