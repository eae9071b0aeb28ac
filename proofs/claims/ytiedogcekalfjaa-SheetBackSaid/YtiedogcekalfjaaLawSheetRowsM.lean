/- The law SheetRows. Conditions: SheetC. -/
import Derived.Test.YtiedogcekalfjaaG09
namespace Go.Sheet
open Go.Cur Go.Wds Go.Proofs Go.Fx
theorem rowsE_len (s : ByteArray) (k : Int) : (rowsE s k).length ≤ s.size + 1 := by
  unfold rowsE
  rw [List.length_map]
  exact Nat.le_trans (List.length_filter_le _ _) (Nat.le_trans (List.length_filter_le _ _) (lines_len s))
theorem rowsE_words {s : ByteArray} {k : Int} {p : Rw} (h : p ∈ rowsE s k) : p.2.length ≤ s.size := by
  unfold rowsE at h
  obtain ⟨⟨a, b, d⟩, h1, rfl⟩ := List.mem_map.1 h
  have hm := List.mem_filter.1 (List.mem_filter.1 h1).1
  obtain ⟨j, hj⟩ := List.getElem?_of_mem hm.1
  have hg := lines_get hj
  have hb : b ≤ s.size := by simpa using hg.2.1
  have := fieldsI_len s (a : Int) (b : Int)
  unfold fieldsI at this
  rw [inB_nat hg.1 hb, if_pos rfl] at this
  exact this
end Go.Sheet
namespace Go.Proofs
open Go.RowKit Go.Shelf Go.Cur Go.Wds Go.Sheet Go.Fx
attribute [local go_sem] Oper.semAt_some
set_option maxRecDepth 100000 in
set_option maxHeartbeats 8000000 in
theorem Try.SheetRows_calls (H : Try.SheetC) (s t : ByteArray) (k0 : Int) (w : World) : Calls Try.prog 3 #[.string s, .int .i64 k0, .string t] w fun e w' => e = .returned (.bool true) ∧ Below w.heap.size w w' := by
  have HSH := Lib.hid fun W => Try.shown13_calls H W
  by_cases h1 : s.size ≤ 500
  · by_cases h2 : t.size ≤ 100
    · have n1 : ¬ (500 : Int) < (s.size : Int) := by omega
      have n2 : ¬ (100 : Int) < (t.size : Int) := by omega
      have HR := Lib.hid fun W => H.rows s k0 W (by omega)
      have HRR := Lib.hid fun W => Try.rSheetRows_calls s k0 W (by omega)
      have HL : Hid ((rowsE s k0).length ≤ 501) := Nat.le_trans (rowsE_len s k0) (by omega)
      have HPW : Hid (∀ p ∈ rowsE s k0, p.2.length ≤ 500) := fun p hp => Nat.le_trans (rowsE_words hp) h1
      have HTI := Lib.hid fun p u W hp hw => H.title s t k0 p u W (by omega) (by omega) hp hw
      have HTR := Lib.hid fun (p : Rw) u W (hp : p ∈ rowsE s k0) hw => Try.rTitle_calls s t p.1 p.2 u W (by omega) (Nat.le_trans (HPW.out p hp) (by decide)) hw
      have HIT : Hid (∀ v W, HasRows W v (rowsE s k0) → Calls Try.prog 12 #[v] W fun e w' => ∃ v', e = .returned v' ∧ HasRows w' v' (rowsE s k0) ∧ Below W.heap.size W w') := fun v W h => Try.sheetIts_calls v _ W (Nat.le_trans HL.out (by decide)) (fun p hp => Nat.le_trans (HPW.out p hp) (by decide)) h
      have HSM : Hid (∀ v u W, HasRows W v (rowsE s k0) → HasRows W u (rowsE s k0) → Calls Try.prog 11 #[v, u] W fun e w' => e = .returned (.bool true) ∧ Below W.heap.size W w') := fun v u W h h' => Try.rSheetSame_calls v u _ W (Nat.le_trans HL.out (by decide)) (fun p hp => Nat.le_trans (HPW.out p hp) (by decide)) h h'
      clear h1 h2 H HPW
      generalize rowsE s k0 = l at *
      obtain ⟨n, hn⟩ : ∃ n, l.length = n := ⟨_, rfl⟩
      have HN := Lib.hid hn
      have hl := HL.out
      rw [hn] at hl
      clear hn HL
      go_enter Try.func3, Try.ntmps3
      go_wp2_with (first
        | (go_at_call 8; (with_reducible refine (HSH.out _).mono ?_); rintro e w1 ⟨rfl, hb1⟩; have HB1 := Lib.hid hb1; clear hb1)
        | (go_at_call 9; (with_reducible refine (HR.out _).mono ?_); rintro e w2 ⟨v2, rfl, hv2, hb2⟩; have HB2 := Lib.hid (HB1.out.trans (hb2.mono HB1.out.size)); have HV2 := Lib.hid hv2; obtain ⟨av2, cv2, rfl, _⟩ := hv2.dat; rw [HN.out] at HV2 ⊢; clear hb2 hv2)
        | (go_at_call 10; (with_reducible refine (HRR.out _).mono ?_); rintro e w3 ⟨v3, rfl, hv3, hb3⟩; have HB3 := Lib.hid (HB2.out.trans (hb3.mono HB2.out.size)); have HU2 := Lib.hid (HV2.out.later hb3); have HV3 := Lib.hid hv3; obtain ⟨av3, cv3, rfl, _⟩ := hv3.dat; rw [HN.out] at HV3 ⊢; clear hb3 hv3)
        | (go_at_call 12; (with_reducible refine (HIT.out _ _ HU2.out).mono ?_); rintro e w4 ⟨v4, rfl, hv4, hb4⟩; have HB4 := Lib.hid (HB3.out.trans (hb4.mono HB3.out.size)); have HX2 := Lib.hid (HU2.out.later hb4); have HX3 := Lib.hid (HV3.out.later hb4); have HV4 := Lib.hid hv4; obtain ⟨av4, cv4, rfl, _⟩ := hv4.dat; rw [HN.out] at HV4 ⊢; clear hb4 hv4)
        | (go_at_call 11; (with_reducible refine (HSM.out _ _ _ HV4.out HX3.out).mono ?_); rintro e w5 ⟨rfl, hb5⟩; have HB5 := Lib.hid (HB4.out.trans (hb5.mono HB4.out.size)); have HY2 := Lib.hid (HX2.out.later hb5); have HY3 := Lib.hid (HX3.out.later hb5); clear hb5))
      clear HV2 HU2 HX2 HV3 HX3 HV4
      go_loopw [9] (fun i wr => ∃ k : Nat, k ≤ n ∧ i = .int .i64 (k : Int) ∧ Below w5.heap.size w5 wr) (fun i _ => n - (intOf i).toNat)
      case atStart => exact ⟨0, Nat.zero_le _, rfl, Below.refl _ _⟩
      case round =>
        obtain ⟨k, hk, rfl, hB⟩ := hrel
        by_cases hlt : k < n
        · obtain ⟨⟨f, P⟩, hp⟩ : ∃ q, l[k]? = some q := ⟨_, List.getElem?_eq_getElem (by have := HN.out; omega)⟩
          have hne : l ≠ [] := fun e => by rw [e] at hp; simp at hp
          obtain ⟨ao2, co2, e2, hd2⟩ := HY2.out.dat
          obtain ⟨ao3, co3, e3, hd3⟩ := HY3.out.dat
          rw [HN.out] at e2 e3
          cases e2; cases e3
          obtain ⟨g, rfl, hg, h1⟩ := hd2.resolve_left hne
          obtain ⟨h, rfl, hh, h2⟩ := hd3.resolve_left hne
          obtain ⟨x0, u1, x1, w1'⟩ := h1 k _ hp
          obtain ⟨y0, u2, y1, w2'⟩ := h2 k _ hp
          have HW1 := Lib.hid w1'
          have HW2 := Lib.hid w2'
          obtain ⟨a1, c1, rfl, _⟩ := w1'
          obtain ⟨a2, c2, rfl, _⟩ := w2'
          have hmem := List.mem_of_getElem? hp
          have HT1 : Hid (∀ W, Below w5.heap.size w5 W → Calls Try.prog 13 #[.string s, .agg #[.int .i64 (f : Nat), .slice a1 P.length c1], .string t] W fun e w' => e = .returned (.bool (titleB s P t)) ∧ Below W.heap.size W w') := fun W hW => HTI.out (f, P) _ W hmem (HW1.out.later hW)
          have HT2 : Hid (∀ W, Below w5.heap.size w5 W → Calls Try.prog 14 #[.string s, .agg #[.int .i64 (f : Nat), .slice a2 P.length c2], .string t] W fun e w' => e = .returned (.bool (titleB s P t)) ∧ Below W.heap.size W w') := fun W hW => HTR.out (f, P) _ W hmem (HW2.out.later hW)
          have HKC : Hid (∀ V, Below w5.heap.size w5 V → (fun V => V.cell? ⟨g, k * 2, none⟩ = some (.int .i64 (f : Nat)) ∧ V.cell? ⟨g, k * 2 + 1, none⟩ = some (.slice a1 P.length c1) ∧ V.cell? ⟨h, k * 2, none⟩ = some (.int .i64 (f : Nat)) ∧ V.cell? ⟨h, k * 2 + 1, none⟩ = some (.slice a2 P.length c2)) V) := fun V hV => ⟨(hV.cell (p := ⟨g, _, none⟩) hg).trans x0, (hV.cell (p := ⟨g, _, none⟩) hg).trans x1, (hV.cell (p := ⟨h, _, none⟩) hh).trans y0, (hV.cell (p := ⟨h, _, none⟩) hh).trans y1⟩
          have hki : (k : Int) < (n : Int) := by omega
          generalize titleB s P t = tb at *
          clear hp hne h1 h2 x0 x1 y0 y1 HW1 HW2 hmem hd2 hd3
          cases tb
          all_goals
            go_upto_region 10 with (fail)
            have N0 := below_drew_s hB
            refine wp_region_held_drew (S := fun V => V.cell? ⟨g, k * 2, none⟩ = some (.int .i64 (f : Nat)) ∧ V.cell? ⟨g, k * 2 + 1, none⟩ = some (.slice a1 P.length c1) ∧ V.cell? ⟨h, k * 2, none⟩ = some (.int .i64 (f : Nat)) ∧ V.cell? ⟨h, k * 2 + 1, none⟩ = some (.slice a2 P.length c2)) (by kernel_rfl) (HKC.out _ N0) (fun hHeld0 => ?_)
            clear hHeld0
            generalize wr.drew = V0 at *
            refine wpAnyH_take (i := 0) (v := ?_) rfl (by kernel_rfl) (by kernel_rfl) (by kernel_rfl) (fun _ _ _ h => h) (Or.inl ⟨by kernel_rfl, ?_⟩) (HKC.out _ N0) ?_
            rotate_left
            · (intro w0 hSw; (try dsimp only at hSw); obtain ⟨e0, e1, e2, e3⟩ := hSw; go_simp; try with_reducible rfl)
            try dsimp only [List.getElem_toArray, List.getElem_cons_succ, List.getElem_cons_zero, Act.put]
            try simp only [List.setIfInBounds_toArray, List.set_cons_zero, List.set_cons_succ]
            refine wpAnyH_take (i := 1) (v := ?_) rfl (by kernel_rfl) (by kernel_rfl) (by kernel_rfl) (fun _ _ _ h => h) (Or.inl ⟨by kernel_rfl, ?_⟩) (HKC.out _ N0) ?_
            rotate_left
            · (intro w0 hSw; (try dsimp only at hSw); obtain ⟨e0, e1, e2, e3⟩ := hSw; go_simp; try with_reducible rfl)
            try dsimp only [List.getElem_toArray, List.getElem_cons_succ, List.getElem_cons_zero, Act.put]
            try simp only [List.setIfInBounds_toArray, List.set_cons_zero, List.set_cons_succ]
            refine wpAnyH_take (i := 2) (v := ?_) rfl (by kernel_rfl) (by kernel_rfl) (by kernel_rfl) (fun _ _ _ h => h) (Or.inl ⟨by kernel_rfl, ?_⟩) (HKC.out _ N0) ?_
            rotate_left
            · (intro w0 hSw; (try dsimp only at hSw); obtain ⟨e0, e1, e2, e3⟩ := hSw; go_simp; try with_reducible rfl)
            try dsimp only [List.getElem_toArray, List.getElem_cons_succ, List.getElem_cons_zero, Act.put]
            try simp only [List.setIfInBounds_toArray, List.set_cons_zero, List.set_cons_succ]
            refine wpAnyH_take (i := 3) (v := ?_) rfl (by kernel_rfl) (by kernel_rfl) (by kernel_rfl) (fun _ _ _ h => h) (Or.inl ⟨by kernel_rfl, ?_⟩) (HKC.out _ N0) ?_
            rotate_left
            · (intro w0 hSw; (try dsimp only at hSw); obtain ⟨e0, e1, e2, e3⟩ := hSw; go_simp; try with_reducible rfl)
            try dsimp only [List.getElem_toArray, List.getElem_cons_succ, List.getElem_cons_zero, Act.put]
            try simp only [List.setIfInBounds_toArray, List.set_cons_zero, List.set_cons_succ]
            refine wpAnyH_take (i := 4) (v := ?_) rfl (by kernel_rfl) (by kernel_rfl) (by kernel_rfl) (fun _ _ _ h => h) (Or.inl ⟨by kernel_rfl, ?_⟩) (HKC.out _ N0) ?_
            rotate_left
            · (intro w0 hSw; (try dsimp only at hSw); obtain ⟨e0, e1, e2, e3⟩ := hSw; go_simp; try with_reducible rfl)
            try dsimp only [List.getElem_toArray, List.getElem_cons_succ, List.getElem_cons_zero, Act.put]
            try simp only [List.setIfInBounds_toArray, List.set_cons_zero, List.set_cons_succ]
            refine wpAnyH_take (i := 5) (v := ?_) rfl (by kernel_rfl) (by kernel_rfl) (by kernel_rfl) (fun _ _ _ h => h) (Or.inl ⟨by kernel_rfl, ?_⟩) (HKC.out _ N0) ?_
            rotate_left
            · (intro w0 hSw; (try dsimp only at hSw); obtain ⟨e0, e1, e2, e3⟩ := hSw; go_simp; try with_reducible rfl)
            try dsimp only [List.getElem_toArray, List.getElem_cons_succ, List.getElem_cons_zero, Act.put]
            try simp only [List.setIfInBounds_toArray, List.set_cons_zero, List.set_cons_succ]
            refine wpAnyH_take (i := 7) (v := ?_) rfl (by kernel_rfl) (by kernel_rfl) (by kernel_rfl) (fun _ _ _ h => h) (Or.inl ⟨by kernel_rfl, ?_⟩) (HKC.out _ N0) ?_
            rotate_left
            · (intro w0 hSw; (try dsimp only at hSw); obtain ⟨e0, e1, e2, e3⟩ := hSw; go_simp; try with_reducible rfl)
            try dsimp only [List.getElem_toArray, List.getElem_cons_succ, List.getElem_cons_zero, Act.put]
            try simp only [List.setIfInBounds_toArray, List.set_cons_zero, List.set_cons_succ]
            refine wpAnyH_take (i := 8) (v := ?_) rfl (by kernel_rfl) (by kernel_rfl) (by kernel_rfl) (fun _ _ _ h => h) (Or.inl ⟨by kernel_rfl, ?_⟩) (HKC.out _ N0) ?_
            rotate_left
            · (intro w0 hSw; (try dsimp only at hSw); obtain ⟨e0, e1, e2, e3⟩ := hSw; go_simp; try with_reducible rfl)
            try dsimp only [List.getElem_toArray, List.getElem_cons_succ, List.getElem_cons_zero, Act.put]
            try simp only [List.setIfInBounds_toArray, List.set_cons_zero, List.set_cons_succ]
            refine wpAnyH_take (i := 9) (v := ?_) rfl (by kernel_rfl) (by kernel_rfl) (by kernel_rfl) (fun _ _ _ h => h) (Or.inl ⟨by kernel_rfl, ?_⟩) (HKC.out _ N0) ?_
            rotate_left
            · (intro w0 hSw; (try dsimp only at hSw); obtain ⟨e0, e1, e2, e3⟩ := hSw; go_simp; try with_reducible rfl)
            try dsimp only [List.getElem_toArray, List.getElem_cons_succ, List.getElem_cons_zero, Act.put]
            try simp only [List.setIfInBounds_toArray, List.set_cons_zero, List.set_cons_succ]
            refine wpAnyH_take (i := 10) (v := ?_) rfl (by kernel_rfl) (by kernel_rfl) (by kernel_rfl) (fun _ _ _ h => h) (Or.inl ⟨by kernel_rfl, ?_⟩) (HKC.out _ N0) ?_
            rotate_left
            · (intro w0 hSw; (try dsimp only at hSw); obtain ⟨e0, e1, e2, e3⟩ := hSw; go_simp; try with_reducible rfl)
            try dsimp only [List.getElem_toArray, List.getElem_cons_succ, List.getElem_cons_zero, Act.put]
            try simp only [List.setIfInBounds_toArray, List.set_cons_zero, List.set_cons_succ]
            refine wpAnyH_take (i := 11) (v := ?_) rfl (by kernel_rfl) (by kernel_rfl) (by kernel_rfl) (fun _ _ _ h => h) (Or.inl ⟨by kernel_rfl, ?_⟩) (HKC.out _ N0) ?_
            rotate_left
            · (intro w0 hSw; (try dsimp only at hSw); obtain ⟨e0, e1, e2, e3⟩ := hSw; go_simp; try with_reducible rfl)
            try dsimp only [List.getElem_toArray, List.getElem_cons_succ, List.getElem_cons_zero, Act.put]
            try simp only [List.setIfInBounds_toArray, List.set_cons_zero, List.set_cons_succ]
            refine wpAnyH_take (i := 12) (v := ?_) rfl (by kernel_rfl) (by kernel_rfl) (by kernel_rfl) (fun _ _ _ h => h) (Or.inl ⟨by kernel_rfl, ?_⟩) (HKC.out _ N0) ?_
            rotate_left
            · (intro w0 hSw; (try dsimp only at hSw); obtain ⟨e0, e1, e2, e3⟩ := hSw; go_simp; try with_reducible rfl)
            try dsimp only [List.getElem_toArray, List.getElem_cons_succ, List.getElem_cons_zero, Act.put]
            try simp only [List.setIfInBounds_toArray, List.set_cons_zero, List.set_cons_succ]
            refine wpAnyH_ready (rs := [6]) (by kernel_rfl) (by simp) (AllReadyH.cons rfl (fun KK hKK => ?_) AllReadyH.nil)
            go_simp
            go_at_call 13
            (with_reducible refine (HT1.out _ N0).mono ?_)
            rintro e W6 ⟨rfl, hb6⟩
            have N1 := N0.trans (hb6.mono N0.size)
            refine hKK.out _ _ (HKC.out _ N1) (fun _ => ?_)
            clear hKK KK
            try dsimp only [List.getElem_toArray, List.getElem_cons_succ, List.getElem_cons_zero, Act.put]
            try simp only [List.setIfInBounds_toArray, List.set_cons_zero, List.set_cons_succ]
            clear N0 hb6
            refine wpAnyH_ready (rs := [13]) (by kernel_rfl) (by simp) (AllReadyH.cons rfl (fun KK hKK => ?_) AllReadyH.nil)
            go_simp
            go_at_call 14
            (with_reducible refine (HT2.out _ N1).mono ?_)
            rintro e W13 ⟨rfl, hb13⟩
            have N2 := N1.trans (hb13.mono N1.size)
            refine hKK.out _ _ (HKC.out _ N2) (fun _ => ?_)
            clear hKK KK
            try dsimp only [List.getElem_toArray, List.getElem_cons_succ, List.getElem_cons_zero, Act.put]
            try simp only [List.setIfInBounds_toArray, List.set_cons_zero, List.set_cons_succ]
            clear N1 hb13
            refine wpAnyH_take (i := 14) (v := .bool false) rfl (by kernel_rfl) (by kernel_rfl) (by kernel_rfl) (fun _ _ _ h => h) (Or.inl ⟨by kernel_rfl, ?_⟩) (HKC.out _ N2) ?_
            · (intro w0 hSw; (try dsimp only at hSw); obtain ⟨e0, e1, e2, e3⟩ := hSw; go_simp <;> first | rfl | simp)
            try dsimp only [List.getElem_toArray, List.getElem_cons_succ, List.getElem_cons_zero, Act.put]
            try simp only [List.setIfInBounds_toArray, List.set_cons_zero, List.set_cons_succ]
            refine wpAnyH_done (by kernel_rfl) ?_ _
            try dsimp only [List.getElem_toArray, List.getElem_cons_succ, List.getElem_cons_zero, Act.put]
            try simp only [List.setIfInBounds_toArray, List.set_cons_zero, List.set_cons_succ]

            go_wp2
            go_roundw
            case rel => exact ⟨k + 1, by omega, by go_num, N2⟩
            case measure => simp [intOf]; omega
        · obtain rfl : k = n := by omega
          clear hlt hk
          go_wp2
          go_ret
          exact ⟨rfl, HB5.out.trans (hB.mono HB5.out.size)⟩
    · have n2 : (100 : Int) < (t.size : Int) := by omega
      have n1 : ¬ (500 : Int) < (s.size : Int) := by omega
      clear h1 h2 H
      go_enter Try.func3, Try.ntmps3
      go_wp2_with (go_at_call 8; (with_reducible refine (HSH.out _).mono ?_); rintro e w1 ⟨rfl, hb1⟩)
      go_ret
      exact ⟨rfl, hb1⟩
  · have n1 : (500 : Int) < (s.size : Int) := by omega
    clear h1 H
    go_enter Try.func3, Try.ntmps3
    go_wp2_with (go_at_call 8; (with_reducible refine (HSH.out _).mono ?_); rintro e w1 ⟨rfl, hb1⟩)
    go_ret
    exact ⟨rfl, hb1⟩
end Go.Proofs
