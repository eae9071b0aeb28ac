/- The document's own Count of layer 9. Conditions: at most two million routes; routes of at most two million stops; fewer than 2^62 stops. -/
import Derived.Test.YtbnefehfkeonhaaPlanMem
import Derived.Test.YtbnefehfkeonhaaLayoutUnpack
namespace Go.Proofs
open Go.RowKit Go.Plans Go.Shelf Go.Layout
attribute [local go_sem] Oper.semAt_some
theorem countL_more (rr : Rts) (c : Nat) : countL rr (c + 1) = countL rr c ++ [(countR rr (c : Int) : Int)] := by
  unfold countL; rw [List.range_succ, List.map_append]; rfl
theorem countL_len (rr : Rts) (c : Nat) : (countL rr c).length = c := by simp [countL]
theorem countR_more {rr : Rts} {k : Nat} {l : List Int} {c : Int} (h : rr[k]? = some l) : countR (rr.take (k + 1)) c = countR (rr.take k) c + l.count c := by
  rw [List.take_add_one, h, countR_append]; simp [countR]
theorem count_more {l : List Int} {q : Nat} {x c : Int} (h : l[q]? = some x) : (l.take (q + 1)).count c = (l.take q).count c + if x = c then 1 else 0 := by
  rw [List.take_add_one, h, List.count_append]
  simp [List.count_singleton]
theorem countR_le (rr : Rts) (c : Int) : countR rr c ≤ many rr := by rw [countR_flat, many_flat]; exact List.count_le_length
theorem owns_baseLe {W : World} {b c : Nat} {e : TypeId} {size : Nat} {v : Value} {k : Nat} {xs : List Value} (h : W.ownsRow c e size v k xs) (hb : b ≤ c) : W.ownsRow b e size v k xs := by
  refine ⟨h.1, ?_⟩
  rcases h.2 with h | ⟨g, cap, cur, h1, h2, h3⟩
  · exact .inl h
  · exact .inr ⟨g, cap, cur, h1, Nat.le_trans hb h2, h3⟩
set_option maxRecDepth 100000 in
set_option maxHeartbeats 2000000 in
theorem Try.RPlanCount_in (v : Value) (rr : Rts) (m : Nat) (w : World) (h1 : 1 ≤ m) (h4 : m ≤ 400) (hl : rr.length ≤ 2000000) (hls : ∀ l ∈ rr, l.length ≤ 2000000) (hm : many rr ≤ 4611686018427387904) (hv : HasRts w v rr) :
    Calls Try.prog 23 #[planV v, .int .i64 (m : Int)] w fun e w' => ∃ u, e = .returned u ∧ w'.ownsRow w.heap.size 3 1 u (countL rr m).length ((countL rr m).map intV) ∧ Below w.heap.size w w' := by
  have HV := Lib.hid hv
  obtain ⟨ao, cap, rfl⟩ := hv.len
  obtain ⟨n, hn⟩ : ∃ n, rr.length = n := ⟨_, rfl⟩
  rw [hn] at hl HV ⊢
  have HM := Lib.hid hls
  have HN := Lib.hid hn
  have hb0 := ((Below.refl _ w).alloc (Nat.le_refl _) (.cells #[.slice ao n cap] 30)).alloc (by simp) (.cells #[] 3)
  have B0 := (BoxAt.new w (.slice ao n cap) 30).next ((Below.refl _ _).alloc (Nat.le_refl _) (.cells #[] 3))
  have HMM := Lib.hid hm
  have O0 : ((w.alloc (.cells #[.slice ao n cap] 30)).alloc (.cells #[] 3)).ownsRow (w.heap.size + 1) 3 1 (.slice (some ⟨w.heap.size + 1, 0, none⟩) 0 0) 0 [] := by
    simpa using owns_empty1 (w.alloc (.cells #[.slice ao n cap] 30)) 3
  obtain ⟨i0, hi, hz0, hz1, hz2⟩ := info_parts Try.info3
  have HI := Lib.hid hi
  clear hi
  have d1 : decide ((m : Int) < 1) = false := decide_eq_false (by omega)
  have d2 : decide ((400 : Int) < (m : Int)) = false := decide_eq_false (by omega)
  clear hv hn hls hm
  unfold planV
  go_enter Try.func23, Try.ntmps23
  go_wp2
  go_loopw [5, 6, 7, 8, 9] (fun u i k2 i2 j2 wr => ∃ c : Nat, c ≤ m ∧ i = .int .i64 (c : Int) ∧ wr.ownsRow (w.heap.size + 1) 3 1 u c ((countL rr c).map intV) ∧ BoxAt wr w.heap.size (.slice ao n cap) ∧ Below w.heap.size w wr) (fun _ i _ _ _ _ => m - (intOf i).toNat)
  case atStart => exact ⟨0, Nat.zero_le _, rfl, O0, B0, hb0⟩
  case round =>
    obtain ⟨c, hc, rfl, hown, hB, hW⟩ := hrel
    have HO := Lib.hid hown
    have HB := Lib.hid hB
    have HW := Lib.hid hW
    clear B0 hb0 O0 hB hW hown
    by_cases hlt : c < m
    · have hci : (c : Int) < (m : Int) := by omega
      go_wp2
      go_loopw [7, 8, 9] (fun kk i j2 w2 => ∃ k : Nat, k ≤ n ∧ kk = .int .i64 (countR (rr.take k) (c : Int) : Int) ∧ i = .int .i64 (k : Int) ∧ Hid (w2.ownsRow (w.heap.size + 1) 3 1 u5 c ((countL rr c).map intV)) ∧ BoxAt w2 w.heap.size (.slice ao n cap) ∧ Below w.heap.size w w2) (fun _ i _ _ => n - (intOf i).toNat)
      case atStart => exact ⟨0, Nat.zero_le _, by simp [countR], rfl, HO, HB.out, HW.out⟩
      case round =>
        obtain ⟨k, hk, rfl, rfl, HO2, hB, hW⟩ := hrel
        have HB2 := Lib.hid hB
        have HW2 := Lib.hid hW
        have b0 := hB.1
        have b1 := hB.2
        clear hB hW HB HW HO
        by_cases hlt2 : k < n
        · obtain ⟨l, hp⟩ : ∃ l, rr[k]? = some l := ⟨_, List.getElem?_eq_getElem (by have := HN.out; omega)⟩
          have hll := HM.out l (List.mem_of_getElem? hp)
          have HP := Lib.hid hp
          have hki : (k : Int) < (n : Int) := by omega
          have HS : Hid (countR (rr.take k) (c : Int) + l.count (c : Int) ≤ 4611686018427387904) := by
            have e1 := countR_more (c := (c : Int)) hp
            have e2 := countR_le (rr.take (k + 1)) (c : Int)
            have e3 := many_take_le rr (k + 1)
            have e4 := HMM.out
            unfold Hid; omega
          have HQM : Hid (countR (rr.take (k + 1)) (c : Int) = countR (rr.take k) (c : Int) + l.count (c : Int)) := countR_more hp
          obtain ⟨N, hNN⟩ : ∃ N, countR (rr.take k) (c : Int) = N := ⟨_, rfl⟩
          rw [hNN] at HS HQM ⊢
          clear hp hNN
          go_wp2
          go_loopw [7, 9] (fun kk j w3 => ∃ q : Nat, q ≤ l.length ∧ kk = .int .i64 ((N + (l.take q).count (c : Int) : Nat) : Int) ∧ j = .int .i64 (q : Int) ∧ Hid (w3.ownsRow (w.heap.size + 1) 3 1 u5 c ((countL rr c).map intV)) ∧ BoxAt w3 w.heap.size (.slice ao n cap) ∧ Below w.heap.size w w3) (fun _ j _ => l.length - (intOf j).toNat)
          case atStart => exact ⟨0, Nat.zero_le _, by simp, rfl, HO2, HB2.out, HW2.out⟩
          case round =>
            obtain ⟨q, hq, rfl, rfl, HO3, hB, hW⟩ := hrel
            have HB3 := Lib.hid hB
            have HW3 := Lib.hid hW
            obtain ⟨b, off, cap', u, hv, hbB, hbw, hcc, hu⟩ := HV.out.get HP.out (Nat.le_refl _) hW
            have c0 := hB.1
            have c1 := hB.2
            clear b0 b1 hB hW HB2 HW2 HO2
            by_cases hlt3 : q < l.length
            · obtain ⟨x, hx⟩ : ∃ x, l[q]? = some x := ⟨_, List.getElem?_eq_getElem hlt3⟩
              rcases hu with ⟨rfl, _⟩ | ⟨b2, off2, cap2, rfl, _, hcm, hu⟩
              · simp at hlt3
              injection hv with h1 h2 h3
              subst h1
              have y0 := hu.2 q x hx
              have hb2 := hu.1
              have HCM := Lib.hid (count_more (c := (c : Int)) hx)
              have hle : (l.take (q + 1)).count (c : Int) ≤ l.count (c : Int) := (List.take_sublist _ _).count_le _
              have hS := HS.out
              obtain ⟨A, hA⟩ : ∃ A, (l.take q).count (c : Int) = A := ⟨_, rfl⟩
              rw [hA] at HCM ⊢
              have hcm2 := HCM.out
              obtain ⟨T, hT⟩ : ∃ T, N + A = T := ⟨_, rfl⟩
              rw [hT]
              have HT := Lib.hid hT
              obtain ⟨L, hL⟩ : ∃ L, l.length = L := ⟨_, rfl⟩
              have HL := Lib.hid hL
              rw [hL] at hcc hlt3 hll
              have hqi : (q : Int) < (L : Int) := by omega
              by_cases hxc : x = (c : Int)
              · have d : (x == (c : Int)) = true := by rw [hxc]; exact beq_self_eq_true _
                have hT1 : T + 1 ≤ 4611686018427387904 := by rw [if_pos hxc] at hcm2; omega
                have HR : Hid (N + (l.take (q + 1)).count (c : Int) = T + 1) := by
                  unfold Hid; rw [if_pos hxc] at hcm2; omega
                clear hx hu h2 h3 hL hA hT hle hS hcm2 HCM hxc
                go_wp2
                exact ⟨⟨q + 1, by have := HL.out; omega, by rw [HR.out]; go_num, by go_num, HO3, HB3.out, HW3.out⟩, by have := HL.out; simp [intOf]; omega⟩
              · have d : (x == (c : Int)) = false := beq_eq_false_iff_ne.2 hxc
                have HR : Hid (N + (l.take (q + 1)).count (c : Int) = T) := by
                  unfold Hid; rw [if_neg hxc] at hcm2; omega
                clear hx hu h2 h3 hL hA hT hle hS hcm2 HCM hxc
                go_wp2
                exact ⟨⟨q + 1, by have := HL.out; omega, by rw [HR.out], by go_num, HO3, HB3.out, HW3.out⟩, by have := HL.out; simp [intOf]; omega⟩
            · obtain rfl : q = l.length := by omega
              injection hv with h1 h2 h3
              subst h1
              obtain ⟨ao2, cap2, rfl⟩ := hu.len
              have HK : Hid (countR (rr.take (k + 1)) (c : Int) = N + (l.take l.length).count (c : Int)) := by
                unfold Hid; rw [List.take_of_length_le (Nat.le_refl _)]; exact HQM.out
              clear hu h2 h3
              go_wp2
              exact ⟨⟨k + 1, by omega, by rw [HK.out], by go_num, HO3, HB3.out, HW3.out⟩, by simp [intOf]; omega⟩
        · obtain rfl : k = n := by omega
          have hT : countR (rr.take k) (c : Int) = countR rr (c : Int) := by rw [List.take_of_length_le (by have := HN.out; omega)]
          rw [hT]
          have hcl := countL_more rr c
          obtain ⟨N, hNN⟩ : ∃ N, countR rr (c : Int) = N := ⟨_, rfl⟩
          rw [hNN] at hcl ⊢
          have HCL := Lib.hid hcl
          have hown := HO2.out
          have hs : w.heap.size + 1 ≤ wr.heap.size := HB2.out.2
          have hml : c + 1 ≤ maxLen := by unfold maxLen; omega
          have hml2 : (c + 1) * 8 ≤ 140737488355328 := by omega
          clear hT hNN hcl
          go_wp2_with (at_builtin; refine wpList_append_own _ rfl _ _ 42 rfl (w.heap.size + 1) 3 i0 (.int .i64 0) 1 8 Try.underlying42 HI.out hz0 hz1 hz2 rfl (by decide) _ _ _ rfl (hown.alloc _) ⟨wr.heap.size, 0, none⟩ 1 1 [.int .i64 (N : Int)] rfl rfl (cells_one wr _ _) (by simp [Value.oneCell']) hml hml2 (by simp; omega) ?_; intro v' w1 hown' hgrow _)
          have hb3 := lgrown_below (HW2.out) (by omega) (owns_baseLe hown (Nat.le_succ _)) hgrow
          have hb4 : Below (w.heap.size + 1) wr w1 := lgrown_below (Below.refl _ wr) hs hown hgrow
          have HB4 : Hid (BoxAt w1 w.heap.size (.slice ao k cap)) := ⟨(hb4.cell (p := ⟨w.heap.size, 0, none⟩) (Nat.lt_succ_self _)).trans HB2.out.1, Nat.lt_of_lt_of_le HB2.out.2 hb4.size⟩
          have HO4 : Hid (w1.ownsRow (w.heap.size + 1) 3 1 v' (c + 1) ((countL rr (c + 1)).map intV)) := by
            unfold Hid; rw [HCL.out, List.map_append]; exact hown'
          have HW4 := Lib.hid hb3
          clear hown hown' hgrow hb3 hb4 HO2 HB2 HW2 b0 b1
          go_wp2
          exact ⟨⟨c + 1, by omega, by go_num, HO4.out, HB4.out, HW4.out⟩, by simp [intOf]; omega⟩
    · obtain rfl : c = m := by omega
      go_wp2
      go_ret
      refine ⟨_, rfl, ?_, HW.out⟩
      rw [countL_len]
      exact owns_baseLe HO.out (by omega)
set_option maxRecDepth 100000 in
theorem Try.RPlanCount_out (v : Value) (rr : Rts) (x : Int) (w : World) (h : x < 1 ∨ 400 < x) (hv : HasRts w v rr) :
    Calls Try.prog 23 #[planV v, .int .i64 x] w fun e w' => ∃ u, e = .returned u ∧ w'.ownsRow w.heap.size 3 1 u 0 [] ∧ Below w.heap.size w w' := by
  obtain ⟨ao, cap, rfl⟩ := hv.len
  obtain ⟨n, hn⟩ : ∃ n, rr.length = n := ⟨_, rfl⟩
  rw [hn] at hv ⊢
  have hb0 := ((Below.refl _ w).alloc (Nat.le_refl _) (.cells #[.slice ao n cap] 30)).alloc (by simp) (.cells #[] 3)
  have O0 : ((w.alloc (.cells #[.slice ao n cap] 30)).alloc (.cells #[] 3)).ownsRow (w.heap.size + 1) 3 1 (.slice (some ⟨w.heap.size + 1, 0, none⟩) 0 0) 0 [] := by
    simpa using owns_empty1 (w.alloc (.cells #[.slice ao n cap] 30)) 3
  clear hv hn
  unfold planV
  by_cases h1 : x < 1
  · have d1 : decide (x < 1) = true := decide_eq_true h1
    go_enter Try.func23, Try.ntmps23
    go_wp2
    go_ret
    exact ⟨_, rfl, owns_baseLe O0 (Nat.le_succ _), hb0⟩
  · have d1 : decide (x < 1) = false := decide_eq_false h1
    have d2 : decide (400 < x) = true := decide_eq_true (by omega)
    go_enter Try.func23, Try.ntmps23
    go_wp2
    go_ret
    exact ⟨_, rfl, owns_baseLe O0 (Nat.le_succ _), hb0⟩
end Go.Proofs
