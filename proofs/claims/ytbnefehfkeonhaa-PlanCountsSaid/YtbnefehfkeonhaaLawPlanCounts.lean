/- The law PlanCounts of layer 9, as a contract: it answers true at every plan, and every two small numbers. No condition. -/
import Derived.Test.YtbnefehfkeonhaaPlanLaw
import Derived.OpenShut
namespace Go.Plans
def tot (rr : Rts) (q : Nat) : Nat := ((List.range q).map fun (c : Nat) => countR rr (c : Int)).sum
theorem tot_more (rr : Rts) (q : Nat) : tot rr (q + 1) = tot rr q + countR rr (q : Int) := by
  unfold tot; rw [List.range_succ, List.map_append, List.sum_append]; simp
def inP (N : Nat) (l : List Int) : Bool := l.all fun s => decide (0 ≤ s) && decide (s < (N : Int))
theorem inP_snoc (N : Nat) (l : List Int) (s : Int) : inP N (l ++ [s]) = (inP N l && (decide (0 ≤ s) && decide (s < (N : Int)))) := by
  unfold inP; rw [List.all_append]; simp
theorem inP_tot {rr : Rts} {N : Nat} (h : inP N rr.flatten = true) : tot rr N = many rr := by
  refine counts_all fun s hs => ?_
  have := List.all_eq_true.1 h s hs
  simpa using this
end Go.Plans
namespace Go.Proofs
open Go.RowKit Go.Plans
attribute [local go_sem] Oper.semAt_some
set_option maxRecDepth 100000 in
set_option maxHeartbeats 4000000 in
theorem Try.PlanCounts_long (v : Value) (rr : Rts) (N st : Nat) (w : World) (hN : N ≤ 255) (hv : HasRts w v rr) (h : longR rr = true ∨ longR rr = false ∧ N = 0) :
    Calls Try.prog 6 #[planV v, .int .u8 (N : Int), .int .u8 (st : Int)] w fun e w' => e = .returned (.bool true) ∧ Below w.heap.size w w' := by
  have HLX := Lib.hid (fun W h => Try.P8 v rr W h)
  have HSH := Lib.hid (fun W => Try.P9 W)
  have HB := Lib.hid (PB.one hv)
  obtain ⟨an, cn, rfl⟩ := hv.len
  unfold planV
  clear hv
  rcases h with hl | ⟨hl, rfl⟩
  · rw [hl] at HLX
    clear hl
    generalize rr.length = L at *
    go_enter Try.func6, Try.ntmps6
    go_wp2_with (fail)
    (with_reducible refine (HLX.out _ HB.out.iv).mono ?_)
    rintro e w1 ⟨rfl, hb1⟩
    have B1 := Lib.hid (HB.out.next hb1)
    clear hb1 HLX HB
    go_wp2_with (fail)
    (with_reducible refine (HSH.out _).mono ?_)
    rintro e w2 ⟨rfl, hb2⟩
    have B2 := Lib.hid (B1.out.next hb2)
    go_wp2
    go_ret
    exact ⟨rfl, B2.out.below⟩
  · rw [hl] at HLX
    clear hl
    generalize rr.length = L at *
    go_enter Try.func6, Try.ntmps6
    go_wp2_with (fail)
    (with_reducible refine (HLX.out _ HB.out.iv).mono ?_)
    rintro e w1 ⟨rfl, hb1⟩
    have B1 := Lib.hid (HB.out.next hb1)
    clear hb1 HLX HB
    go_wp2_with (fail)
    (with_reducible refine (HSH.out _).mono ?_)
    rintro e w2 ⟨rfl, hb2⟩
    have B2 := Lib.hid (B1.out.next hb2)
    go_wp2
    go_ret
    exact ⟨rfl, B2.out.below⟩
set_option maxRecDepth 100000 in
set_option maxHeartbeats 8000000 in
theorem Try.PlanCounts_calls (v : Value) (rr : Rts) (N st : Nat) (w : World) (h1 : 1 ≤ N) (hN : N ≤ 255) (hst : st ≤ 255) (hv : HasRts w v rr) (hl : longR rr = false) :
    Calls Try.prog 6 #[planV v, .int .u8 (N : Int), .int .u8 (st : Int)] w fun e w' => e = .returned (.bool true) ∧ Below w.heap.size w w' := by
  have HLX := Lib.hid (fun W h => Try.P8 v rr W h)
  rw [hl] at HLX
  have HSH := Lib.hid (fun W => Try.P9 W)
  have HB := Lib.hid (PB.one hv)
  have hf := Fit.of hl
  have HF := Lib.hid hf
  have H19 := Lib.hid (fun W h => Try.P19 v rr ((st % N : Nat) : Int) W h)
  have H16 := Lib.hid (fun W h => Try.P16 v rr W (by have := hf.all; omega) h)
  have H22 := Lib.hid (fun W h => Try.P22 v rr (N : Int) W (by have := hf.all; omega) h)
  have e0 : (countL rr N).length = N := countL_len rr N
  rw [cntX_in rr h1 (by omega), e0] at H22
  obtain ⟨CL, hCL⟩ : ∃ CL, countL rr N = CL := ⟨_, rfl⟩
  rw [hCL] at H22
  have HCL := Lib.hid hCL
  have HV := Lib.hid hv
  obtain ⟨an, cn, rfl⟩ := hv.len
  unfold planV
  have hL4 := hf.len
  obtain ⟨L, hL⟩ : ∃ L, rr.length = L := ⟨_, rfl⟩
  rw [hL] at HLX HB H19 H16 H22 HV hL4 ⊢
  have HL := Lib.hid hL
  clear hv hl hf e0 hCL hL
  have n0 : ((N : Int) == 0) = false := beq_eq_false_iff_ne.2 (by omega)
  go_enter Try.func6, Try.ntmps6
  go_wp2_with (fail)
  (with_reducible refine (HLX.out _ HB.out.iv).mono ?_)
  rintro e w1 ⟨rfl, hb1⟩
  have B1 := Lib.hid (HB.out.next hb1)
  clear hb1 HLX HB
  go_wp2_with (fail)
  (with_reducible refine (HSH.out _).mono ?_)
  rintro e w2 ⟨rfl, hb2⟩
  have B2 := Lib.hid (B1.out.next hb2)
  have q2 := B2.out.ba.1
  clear hb2 HSH B1
  go_wp2_with (fail)
  (with_reducible refine (H22.out _ B2.out.iv).mono ?_)
  rintro e w3 ⟨an2, cn2, rfl, hI, hb3⟩
  have B3 := Lib.hid (B2.out.next hb3)
  have q3 := B3.out.ba.1
  have HI := Lib.hid hI
  clear hb3 B2 q2 H22 hI
  go_wp2_with (fail)
  go_loopw [8, 9] (fun su i wr => ∃ q : Nat, q ≤ N ∧ su = .int .i64 (tot rr q : Int) ∧ i = .int .i64 (q : Int) ∧ w3 = wr) (fun _ i _ => N - (intOf i).toNat)
  case atStart => exact ⟨0, Nat.zero_le _, rfl, rfl, rfl⟩
  case round =>
    obtain ⟨q, hq, rfl, rfl, hw⟩ := hrel
    subst hw
    by_cases hlt : q < N
    · have hx : CL[q]? = some (countR rr (q : Int) : Int) := by rw [← HCL.out]; simp [countL, hlt]
      obtain ⟨b, off, cp, hvv, hbw, hc⟩ := HI.out.at hx
      rw [show CL.length = N by rw [← HCL.out, countL_len]] at hvv
      injection hvv with e1 e2 e3
      subst e1
      have hqi : (q : Int) < (N : Int) := by omega
      have htm := Lib.hid (tot_more rr q)
      have hmost : tot rr (q + 1) ≤ 2100 := Nat.le_trans (counts_most rr (q + 1)) HF.out.all
      rw [htm.out] at hmost
      obtain ⟨T, hT⟩ : ∃ T, tot rr q = T := ⟨_, rfl⟩
      obtain ⟨C, hC⟩ : ∃ C, countR rr (q : Int) = C := ⟨_, rfl⟩
      rw [hT, hC] at htm hmost
      rw [hC] at hc
      rw [hT]
      clear hx e2 e3 hT hC
      go_wp2_with (fail)
      exact ⟨⟨q + 1, by omega, by rw [htm.out]; go_num, by go_num, trivial⟩, by simp [intOf]; omega⟩
    · obtain rfl : q = N := by omega
      have hmost : tot rr q ≤ many rr := counts_most rr q
      have hTM := Lib.hid (fun h => inP_tot (rr := rr) (N := q) h)
      obtain ⟨T, hT⟩ : ∃ T, tot rr q = T := ⟨_, rfl⟩
      rw [hT] at hmost hTM ⊢
      clear hT
      go_wp2_with (fail)
      go_loopw [10, 11, 12] (fun bi i k wr => ∃ m : Nat, m ≤ L ∧ bi = .bool (inP q (rr.take m).flatten) ∧ i = .int .i64 (m : Int) ∧ w3 = wr) (fun _ i _ _ => L - (intOf i).toNat)
      case atStart => exact ⟨0, Nat.zero_le _, rfl, rfl, rfl⟩
      case round =>
        obtain ⟨m, hm, rfl, rfl, hw⟩ := hrel
        subst hw
        by_cases hlt2 : m < L
        · obtain ⟨l, hp⟩ : ∃ l, rr[m]? = some l := ⟨_, List.getElem?_eq_getElem (by have := HL.out; omega)⟩
          obtain ⟨b, off, cp, u, hvv, hbB, hbw, hc, hu⟩ := HV.out.get hp (Nat.le_refl _) B3.out.below
          injection hvv with e1 e2 e3
          subst e1
          have hmi : (m : Int) < (L : Int) := by omega
          have hll := HF.out.each l (List.mem_of_getElem? hp)
          have HP := Lib.hid hp
          have HU := Lib.hid hu
          obtain ⟨ao2, cap2, rfl⟩ := hu.len
          have hfl : Hid ((rr.take (m + 1)).flatten = (rr.take m).flatten ++ l) := by unfold Hid; rw [List.take_add_one, hp]; simp
          obtain ⟨K, hK⟩ : ∃ K, l.length = K := ⟨_, rfl⟩
          rw [hK] at hc hll HU
          have HK := Lib.hid hK
          clear hp hu e2 e3 hK
          go_wp2_with (fail)
          go_loopw [10, 12] (fun bi k wr => ∃ j : Nat, j ≤ K ∧ bi = .bool (inP q ((rr.take m).flatten ++ l.take j)) ∧ k = .int .i64 (j : Int) ∧ w3 = wr) (fun _ k _ => K - (intOf k).toNat)
          case atStart => exact ⟨0, Nat.zero_le _, by simp, rfl, rfl⟩
          case round =>
            obtain ⟨j, hj, rfl, rfl, hw⟩ := hrel
            subst hw
            by_cases hlt3 : j < K
            · obtain ⟨x, hx⟩ : ∃ x, l[j]? = some x := ⟨_, List.getElem?_eq_getElem (by have := HK.out; omega)⟩
              obtain ⟨b3, off3, cp3, hvv, hbw3, hc3⟩ := HU.out.at hx
              rw [HK.out] at hvv
              injection hvv with e1 e2 e3
              subst e1
              have hji : (j : Int) < (K : Int) := by omega
              have hsn : Hid (inP q ((rr.take m).flatten ++ l.take (j + 1)) = (inP q ((rr.take m).flatten ++ l.take j) && (decide (0 ≤ x) && decide (x < (q : Int))))) := by
                unfold Hid
                rw [take_snoc hx, ← List.append_assoc, inP_snoc]
              obtain ⟨tb, htb⟩ : ∃ tb, inP q ((rr.take m).flatten ++ l.take j) = tb := ⟨_, rfl⟩
              rw [htb] at hsn ⊢
              clear hx e2 e3 htb
              cases tb with
              | false =>
                go_wp2_with (fail)
                exact ⟨⟨j + 1, by omega, by rw [hsn.out]; rfl, by go_num, trivial⟩, by simp [intOf]; omega⟩
              | true =>
                by_cases hx0 : 0 ≤ x
                · have d1 : decide (0 ≤ x) = true := decide_eq_true hx0
                  have hsn2 : Hid (inP q ((rr.take m).flatten ++ l.take (j + 1)) = decide (x < (q : Int))) := by unfold Hid; rw [hsn.out, d1]; rfl
                  clear hsn
                  obtain ⟨tc, htc⟩ : ∃ tc, decide (x < (q : Int)) = tc := ⟨_, rfl⟩
                  rw [htc] at hsn2
                  go_wp2_with (fail)
                  exact ⟨⟨j + 1, by omega, by rw [hsn2.out], by go_num, trivial⟩, by simp [intOf]; omega⟩
                · have d1 : decide (0 ≤ x) = false := decide_eq_false hx0
                  have hsn2 : Hid (inP q ((rr.take m).flatten ++ l.take (j + 1)) = false) := by unfold Hid; rw [hsn.out, d1]; rfl
                  clear hsn
                  go_wp2_with (fail)
                  exact ⟨⟨j + 1, by omega, by rw [hsn2.out], by go_num, trivial⟩, by simp [intOf]; omega⟩
            · obtain rfl : j = K := by omega
              have htk : Hid (l.take j = l) := by unfold Hid; rw [List.take_of_length_le (by have := HK.out; omega)]
              rw [htk.out, ← hfl.out]
              obtain ⟨tb, htb⟩ : ∃ tb, inP q (rr.take (m + 1)).flatten = tb := ⟨_, rfl⟩
              rw [htb]
              have HTB := Lib.hid htb
              clear htb
              go_wp2_with (fail)
              exact ⟨⟨m + 1, by omega, by rw [HTB.out], by go_num, trivial⟩, by simp [intOf]; omega⟩
        · obtain rfl : m = L := by omega
          rw [show rr.take m = rr by rw [List.take_of_length_le (by have := HL.out; omega)]]
          obtain ⟨tb, htb⟩ : ∃ tb, inP q rr.flatten = tb := ⟨_, rfl⟩
          rw [htb] at hTM ⊢
          clear htb
          have q3b := B3.out.ba.1
          go_wp2_with (fail)
          have hmod : ((st : Int) % (q : Int)) = ((st % q : Nat) : Int) := by omega
          rw [hmod]
          have hSq : st % q < q := Nat.mod_lt _ (by omega)
          obtain ⟨S, hS⟩ : ∃ S, st % q = S := ⟨_, rfl⟩
          rw [hS] at hSq H19 ⊢
          obtain ⟨MM, hMM⟩ : ∃ MM, many rr = MM := ⟨_, rfl⟩
          rw [hMM] at H16 hmost hTM
          have hM2 : MM ≤ 2100 := by rw [← hMM]; exact HF.out.all
          have hx : CL[S]? = some (countR rr (S : Int) : Int) := by rw [← HCL.out]; simp [countL, hSq]
          have hfi := found_iff (S : Int) rr
          obtain ⟨C, hC⟩ : ∃ C, countR rr (S : Int) = C := ⟨_, rfl⟩
          rw [hC] at hx hfi
          have hlen := Lib.hid (show CL.length = q by rw [← HCL.out, countL_len])
          have HX := Lib.hid hx
          clear hmod hS hMM hC hx q3 q3b HCL
          cases ho : findR (S : Int) rr with
          | none =>
            rw [ho] at H19 hfi
            have hC0 : ¬ 0 < C := by
              intro h
              rw [decide_eq_true h] at hfi
              cases hfi
            obtain rfl : C = 0 := by omega
            have H19' : Hid (∀ W, HasRts W (.slice an m cn) rr → Calls Try.prog 19 #[.agg #[.slice an m cn], .int .i64 (S : Int)] W fun e w' => e = .returned (.tuple #[.int .i64 0, .int .i64 0, .bool false]) ∧ Below W.heap.size W w') := H19
            clear H19 hfi ho hC0
            refine (H19'.out _ B3.out.iv).mono ?_
            rintro e w4 ⟨rfl, hb4⟩
            have B4 := Lib.hid (B3.out.next hb4)
            have q4 := B4.out.ba.1
            obtain ⟨bc, offc, cpc, hvc, hbc, hcc⟩ := (HI.out.next hb4).at HX.out
            rw [hlen.out] at hvc
            injection hvc with e1 e2 e3
            subst e1
            have hSi : (S : Int) < (q : Int) := by omega
            clear hb4 e2 e3 H19'
            simp only [Int.natCast_zero] at hcc
            cases tb with
            | true =>
              have hTe := hTM.out rfl
              subst hTe
              go_wp2_with (fail)
              refine (H16.out _ B4.out.iv).mono ?_
              rintro e w5 ⟨rfl, hb5⟩
              have B5 := Lib.hid (B4.out.next hb5)
              have q5 := B5.out.ba.1
              clear hb5
              go_wp2_with (fail)
              refine (H16.out _ B5.out.iv).mono ?_
              rintro e w6 ⟨rfl, hb6⟩
              have B6 := Lib.hid (B5.out.next hb6)
              have q6 := B6.out.ba.1
              clear hb6
              go_wp2_with (fail)
              go_ret
              exact ⟨rfl, B6.out.below⟩
            | false =>
              have hTe : decide ((MM : Int) < (T : Int)) = false := decide_eq_false (by omega)
              go_wp2_with (fail)
              refine (H16.out _ B4.out.iv).mono ?_
              rintro e w5 ⟨rfl, hb5⟩
              have B5 := Lib.hid (B4.out.next hb5)
              have q5 := B5.out.ba.1
              clear hb5
              go_wp2_with (fail)
              go_ret
              exact ⟨rfl, B5.out.below⟩
          | some pr =>
            obtain ⟨ii, ki⟩ := pr
            rw [ho] at H19 hfi
            have hC0 : 0 < C := by
              rcases Nat.lt_or_ge 0 C with h | h
              · exact h
              · rw [decide_eq_false (by omega)] at hfi; cases hfi
            obtain ⟨r, hr1, hr2⟩ := findR_get ho
            replace hr1 := Lib.hid hr1
            replace hr2 := Lib.hid hr2
            have H19' : Hid (∀ W, HasRts W (.slice an m cn) rr → Calls Try.prog 19 #[.agg #[.slice an m cn], .int .i64 (S : Int)] W fun e w' => e = .returned (.tuple #[.int .i64 (ii : Int), .int .i64 (ki : Int), .bool true]) ∧ Below W.heap.size W w') := H19
            clear H19 hfi ho
            refine (H19'.out _ B3.out.iv).mono ?_
            rintro e w4 ⟨rfl, hb4⟩
            have B4 := Lib.hid (B3.out.next hb4)
            have q4 := B4.out.ba.1
            obtain ⟨bc, offc, cpc, hvc, hbc, hcc⟩ := (HI.out.next hb4).at HX.out
            rw [hlen.out] at hvc
            injection hvc with e1 e2 e3
            subst e1
            have hSi : (S : Int) < (q : Int) := by omega
            clear hb4 e2 e3 H19'
            cases tb with
            | true =>
              have hTe := hTM.out rfl
              subst hTe
              go_wp2_with (fail)
              refine (H16.out _ B4.out.iv).mono ?_
              rintro e w5 ⟨rfl, hb5⟩
              have B5 := Lib.hid (B4.out.next hb5)
              have q5 := B5.out.ba.1
              clear hb5
              go_wp2_with (fail)
              refine (H16.out _ B5.out.iv).mono ?_
              rintro e w6 ⟨rfl, hb6⟩
              have B6 := Lib.hid (B5.out.next hb6)
              have q6 := B6.out.ba.1
              clear hb6
              obtain ⟨b, off, cp, u, hvv, hbB, hbw, hc, hu⟩ := HV.out.get hr1.out (Nat.le_refl _) B6.out.below
              injection hvv with e1 e2 e3
              subst e1
              obtain ⟨b3, off3, cp3, rfl, hbw3, hc3⟩ := hu.at hr2.out
              have hkl : (ki : Int) < (r.length : Int) := by have := (List.getElem?_eq_some_iff.1 hr2.out).1; omega
              have hil : (ii : Int) < (m : Int) := by have := (List.getElem?_eq_some_iff.1 hr1.out).1; have := HL.out; omega
              clear hu e2 e3
              go_wp2_with (fail)
              go_ret
              exact ⟨rfl, B6.out.below⟩
            | false =>
              have hTe : decide ((MM : Int) < (T : Int)) = false := decide_eq_false (by omega)
              go_wp2_with (fail)
              refine (H16.out _ B4.out.iv).mono ?_
              rintro e w5 ⟨rfl, hb5⟩
              have B5 := Lib.hid (B4.out.next hb5)
              have q5 := B5.out.ba.1
              clear hb5
              obtain ⟨b, off, cp, u, hvv, hbB, hbw, hc, hu⟩ := HV.out.get hr1.out (Nat.le_refl _) B5.out.below
              injection hvv with e1 e2 e3
              subst e1
              obtain ⟨b3, off3, cp3, rfl, hbw3, hc3⟩ := hu.at hr2.out
              have hkl : (ki : Int) < (r.length : Int) := by have := (List.getElem?_eq_some_iff.1 hr2.out).1; omega
              have hil : (ii : Int) < (m : Int) := by have := (List.getElem?_eq_some_iff.1 hr1.out).1; have := HL.out; omega
              clear hu e2 e3
              go_wp2_with (fail)
              go_ret
              exact ⟨rfl, B5.out.below⟩
theorem Try.PlanCounts_all (v : Value) (rr : Rts) (a : Int) (ha : (Lit.int .u8 a).wf = true) (b : Int) (hb : (Lit.int .u8 b).wf = true) (w : World) (hv : HasRts w v rr) :
    Calls Try.prog 6 #[planV v, .int .u8 a, .int .u8 b] w fun e w' => e = .returned (.bool true) ∧ Below w.heap.size w w' := by
  replace ha := bounds_u8 ha
  replace hb := bounds_u8 hb
  obtain ⟨N, rfl⟩ : ∃ N : Nat, a = (N : Int) := ⟨a.toNat, by omega⟩
  obtain ⟨st, rfl⟩ : ∃ st : Nat, b = (st : Int) := ⟨b.toNat, by omega⟩
  have h1 : N ≤ 255 := by omega
  have h2 : st ≤ 255 := by omega
  cases h3 : longR rr with
  | true => exact Try.PlanCounts_long v rr N st w h1 hv (.inl h3)
  | false =>
    by_cases h4 : N = 0
    · exact Try.PlanCounts_long v rr N st w h1 hv (.inr ⟨h3, h4⟩)
    · exact Try.PlanCounts_calls v rr N st w (by omega) h1 h2 hv h3
#print axioms Try.PlanCounts_all
end Go.Proofs
