/- The law HeadTwice. Conditions: HeadC; the variables' words T. -/
import Derived.Test.YtmmmgljekoebpaaDoorLawHeadLacksM
namespace Go.Proofs
open Go.RowKit Go.Shelf Go.Hdr Go.Fx Go.Wds Go.Metric Go.Layout Go.Cur
attribute [local go_sem] Oper.semAt_some
set_option maxRecDepth 100000 in
set_option maxHeartbeats 32000000 in
theorem Tryd.HeadTwice_calls {T : World → Prop} (H : Tryd.HeadC T) (h : Hd) (a : Nat) (key : ByteArray) (w : World) (hT0 : T w) (hnm : h.name.size ≤ 9223372036854775807) (ha : a ≤ 255) : Calls Tryd.prog 6 #[hdV h, .int .u8 (a : Int), .string key] w fun e w' => e = .returned (.bool true) ∧ Below w.heap.size w w' := by
  have HT : Hid (∀ W, Below w.heap.size w W → T W) := fun W hW => H.keep w W hT0 hW
  have HSH := Lib.hid fun W h => Tryd.shown14_calls H W h
  have HMR := Lib.hid fun W => Tryd.rhmay_calls h W hnm
  cases hm : mayH h with
  | false =>
    rw [hm] at HMR
    obtain ⟨nm, k, d, c, m, l⟩ := h
    simp only [hdV] at HMR ⊢
    have HB0 := Lib.hid (below_one_h w (.cells #[.string nm, .int .i64 k, .int .i64 d, .int .i64 c, .int .i64 m, .int .i64 l] 23))
    clear H hT0 hm hnm
    go_enter Tryd.func6, Tryd.ntmps6
    go_wp2_with (first
      | (go_at_call 11; (with_reducible refine (HMR.out _).mono ?_); rintro e w1 ⟨rfl, hb1⟩; have HB1 := Lib.hid (hstep HB0.out hb1); clear hb1)
      | (go_at_call 9; (with_reducible refine (HSH.out _ (HT.out _ HB1.out)).mono ?_); rintro e w2 ⟨rfl, hb2⟩))
    go_ret
    exact ⟨rfl, hstep HB1.out hb2⟩
  | true =>
    rw [hm] at HMR
    have hPl := print_len hm
    have HPR : Hid (∀ W, T W → Calls Tryd.prog 12 #[hdV h] W fun e w' => e = .returned (.string (printE h)) ∧ Below W.heap.size W w') := fun W hW => H.print h W (by have := (name_one (mayF hm).name).2; simp at this; omega) hW
    have HLC := Lib.hid fun W => Tryd.Lines_calls (printE h) W (by omega)
    obtain ⟨hll, hlg⟩ := lines_txt (mayF hm) (itemsL h) (fun i hi => items_mem.1 hi)
    rw [← printE_txt hm] at hll hlg
    obtain ⟨hn4, hn6⟩ := items_len h
    obtain ⟨n, hn⟩ : ∃ n, (itemsL h).length = n := ⟨_, rfl⟩
    obtain ⟨q, hq⟩ : ∃ q, a % n = q := ⟨_, rfl⟩
    have hqn : q < n := by rw [← hq]; exact Nat.mod_lt _ (by omega)
    obtain ⟨x, hx⟩ : ∃ x, (itemsL h)[q]? = some x := ⟨_, List.getElem?_eq_getElem (by omega)⟩
    obtain ⟨o1, hlx⟩ := hlg q x hx
    obtain ⟨hcs, hc1, hc2, hc3⟩ := cut_line hm hx
    rw [hn] at hll
    have hqi : (a : Int) % (n : Int) = (q : Int) := by omega
    have hqi2 : (a : Int).tmod (n : Int) = (q : Int) := by rw [Int.tmod_eq_emod_of_nonneg (by omega)]; exact hqi
    have hqk : (q : Int) < (n : Int) := by omega
    have hn0 : (0 : Int) < (n : Int) := by omega
    have hnz : ((n : Int) == 0) = false := beq_eq_false_iff_ne.2 (by omega)
    have hxm := List.mem_of_getElem? hx
    have hpk := parse_twice hm hxm
    rw [← hc1] at hpk
    have HPA : Hid (∀ W, T W → Calls Tryd.prog 14 #[.string (printE h ++ (printE h).extract (offI h (itemsL h) q) (offI h (itemsL h) q + (lnI [] h x).length + 1))] W fun e w' => e = .returned (.tuple #[.agg #[.string ⟨#[]⟩, .int .i64 0, .int .i64 0, .int .i64 0, .int .i64 0, .int .i64 0], .int .i64 0, .agg #[.int .i64 ((printE h).size : Int), .int .i64 140]]) ∧ Below W.heap.size W w') := fun W hW => (H.parse _ W (by simp only [ByteArray.size_append, ByteArray.size_extract]; omega) hW).mono fun e w' hh => ⟨hh.1.trans (by rw [hpk]; rfl), hh.2⟩
    have HOT : Hid (∀ k, k ∈ ([⟨#[88]⟩, ⟨#[78, 65, 77, 69, 83]⟩, ⟨#[83, 69, 67, 84, 73, 79, 78]⟩, ⟨#[67, 65, 80, 65, 67, 73, 84, 73, 69, 83]⟩] : List ByteArray) → parseE (printE h ++ k ++ ⟨#[32, 58, 32, 49, 10]⟩) = (hd0, 0, (printE h).size, 140)) := fun k hk => by
      obtain ⟨k1, k2, k3, k4⟩ := other_keys k hk
      exact parse_other hm k1 k2 k3 k4
    have HPZ : Hid (∀ k W, k ∈ ([⟨#[88]⟩, ⟨#[78, 65, 77, 69, 83]⟩, ⟨#[83, 69, 67, 84, 73, 79, 78]⟩, ⟨#[67, 65, 80, 65, 67, 73, 84, 73, 69, 83]⟩] : List ByteArray) → k.size ≤ 10 → T W → Calls Tryd.prog 14 #[.string (printE h ++ k ++ ⟨#[32, 58, 32, 49, 10]⟩)] W fun e w' => e = .returned (.tuple #[.agg #[.string ⟨#[]⟩, .int .i64 0, .int .i64 0, .int .i64 0, .int .i64 0, .int .i64 0], .int .i64 0, .agg #[.int .i64 ((printE h).size : Int), .int .i64 140]]) ∧ Below W.heap.size W w') := fun k W hk hks hW => (H.parse _ W (by
      simp only [ByteArray.size_append]
      show _ + _ + 5 ≤ _
      omega) hW).mono fun e w' hh => ⟨hh.1.trans (by rw [HOT.out k hk]; rfl), hh.2⟩
    obtain ⟨o0, ho0⟩ : ∃ o, offI h (itemsL h) q = o := ⟨_, rfl⟩
    obtain ⟨o2, ho2⟩ : ∃ o, o0 + (lnI [] h x).length + 1 = o := ⟨_, rfl⟩
    rw [ho0, ho2] at hcs HPA hlx
    have ho02 : (o0 : Int) ≤ (o2 : Int) := by omega
    have hsl : ∀ W, (Instr.slice 9 (.string (printE h)) (some (.int .i64 (o0 : Int))) (some (.int .i64 (o2 : Int))) none).run Tryd.prog W = .ok (.string ((printE h).extract o0 o2)) W := fun W => by
      rw [run_slice_string W 9 _ .i64 .i64 (o0 : Int) (o2 : Int) Tryd.underlying9 (by omega) (by omega) (by omega), Int.toNat_natCast, Int.toNat_natCast]
    have hsa : ((printE h).extract o0 o2).size ≤ 384 := by rw [ByteArray.size_extract]; omega
    clear hc1 hc2 hc3 hpk hlg hx hn hq hxm HOT
    generalize (printE h).extract o0 o2 = PA at *
    generalize printE h = P at *
    generalize lines P.data.toList = LL at *
    obtain ⟨nm, k, d, c, m, l⟩ := h
    simp only [hdV] at HMR HPR ⊢
    have hPi : (P.size : Int) ≤ 384 := by omega
    have z1 : ¬ 9223372036854775807 < P.size + PA.size := by omega
    have HC0 := Lib.hid (below_one_h w (.cells #[.string nm, .int .i64 k, .int .i64 d, .int .i64 c, .int .i64 m, .int .i64 l] 23))
    have HX0 := Lib.hid (World.alloc_heap_new w (.cells #[.string nm, .int .i64 k, .int .i64 d, .int .i64 c, .int .i64 m, .int .i64 l] 23))
    have HLX := Lib.hid hlx
    have HLL := Lib.hid hll
    clear H hT0 hm hnm hcs hlx hll
    by_cases hk0 : key = ⟨#[88]⟩
    · subst hk0
      have HPK := Lib.hid fun W hW => HPZ.out ⟨#[88]⟩ W (by simp) (by decide) hW
      have hks : (⟨#[88]⟩ : ByteArray).size = 1 := rfl
      have z2 : ¬ 9223372036854775807 < P.size + 1 := by omega
      have z3 : ¬ 9223372036854775807 < P.size + 1 + 5 := by omega
      clear HPZ hPl
      go_enter Tryd.func6, Tryd.ntmps6
      go_wp2_with (first
      | (go_at_call 11; (with_reducible refine (HMR.out _).mono ?_); rintro e w1 ⟨rfl, hb1⟩; have HC1 := Lib.hid (hstep HC0.out hb1); have HX1 := Lib.hid (hbox_next HX0.out hb1); clear hb1)
      | (go_at_call 9; (with_reducible refine (HSH.out _ (HT.out _ HC1.out)).mono ?_); rintro e w2 ⟨rfl, hb2⟩; have HC2 := Lib.hid (hstep HC1.out hb2); have aB := hbox_next HX1.out hb2; have a0 : w2.cell? ⟨w.heap.size, 0, none⟩ = some (.string nm) := (hbox_cell aB 0).1; have a1 : w2.cell? ⟨w.heap.size, 1, none⟩ = some (.int .i64 k) := (hbox_cell aB 1).1; have a2 : w2.cell? ⟨w.heap.size, 2, none⟩ = some (.int .i64 d) := (hbox_cell aB 2).1; have a3 : w2.cell? ⟨w.heap.size, 3, none⟩ = some (.int .i64 c) := (hbox_cell aB 3).1; have a4 : w2.cell? ⟨w.heap.size, 4, none⟩ = some (.int .i64 m) := (hbox_cell aB 4).1; have a5 : w2.cell? ⟨w.heap.size, 5, none⟩ = some (.int .i64 l) := (hbox_cell aB 5).1; clear hb2 aB)
      | (go_at_call 12; (with_reducible refine (HPR.out _ (HT.out _ HC2.out)).mono ?_); rintro e w3 ⟨rfl, hb3⟩; have HC3 := Lib.hid (hstep HC2.out hb3); clear hb3 a0 a1 a2 a3 a4 a5)
      | (go_at_call 15; (with_reducible refine (HLC.out _).mono ?_); rintro e w4 ⟨lv, rfl, hl4, hb4⟩; go_loud (have HC4 := Lib.hid (hstep HC3.out hb4); rw [HLL.out] at hl4; obtain ⟨g, cl, rfl, hg⟩ := rows_at hl4 (by omega); obtain ⟨x0, x1, x2⟩ := hline_cells3 (L := LL) (by rw [HLL.out]; exact hl4) HLX.out; clear hl4 hb4))
      | (go_at_call 14; (with_reducible refine (HPA.out _ (HT.out _ (hstep HC4.out (below_one_h w4 (.cells #[.int .i64 (o0 : Nat), .int .i64 (o1 : Nat), .int .i64 (o2 : Nat)] 39))))).mono ?_); rintro e w6 ⟨rfl, hb6⟩; have HC6 := Lib.hid (hstep (hstep (hstep HC4.out (below_one_h w4 (.cells #[.int .i64 (o0 : Nat), .int .i64 (o1 : Nat), .int .i64 (o2 : Nat)] 39))) hb6) (below_two_n w6 (.cells #[.string ⟨#[]⟩, .int .i64 0, .int .i64 0, .int .i64 0, .int .i64 0, .int .i64 0] 23) (.cells #[.int .i64 (P.size : Int), .int .i64 140] 32))); clear hb6)
      | (go_at_call 14; (with_reducible refine (HPK.out _ (HT.out _ HC6.out)).mono ?_); rintro e w7 ⟨rfl, hb7⟩; have HC7 := Lib.hid (hstep HC6.out hb7); clear hb7))
      go_ret
      exact ⟨rfl, hstep HC7.out (below_two_n _ _ _)⟩
    · have n0 : (key.toList == [88]) = false := by rw [htext_beq]; exact decide_eq_false hk0
      by_cases hk1 : key = ⟨#[78, 65, 77, 69, 83]⟩
      · subst hk1
        have HPK := Lib.hid fun W hW => HPZ.out ⟨#[78, 65, 77, 69, 83]⟩ W (by simp) (by decide) hW
        have hks : (⟨#[78, 65, 77, 69, 83]⟩ : ByteArray).size = 5 := rfl
        have z2 : ¬ 9223372036854775807 < P.size + 5 := by omega
        have z3 : ¬ 9223372036854775807 < P.size + 5 + 5 := by omega
        clear HPZ hPl
        go_enter Tryd.func6, Tryd.ntmps6
        go_wp2_with (first
        | (go_at_call 11; (with_reducible refine (HMR.out _).mono ?_); rintro e w1 ⟨rfl, hb1⟩; have HC1 := Lib.hid (hstep HC0.out hb1); have HX1 := Lib.hid (hbox_next HX0.out hb1); clear hb1)
        | (go_at_call 9; (with_reducible refine (HSH.out _ (HT.out _ HC1.out)).mono ?_); rintro e w2 ⟨rfl, hb2⟩; have HC2 := Lib.hid (hstep HC1.out hb2); have aB := hbox_next HX1.out hb2; have a0 : w2.cell? ⟨w.heap.size, 0, none⟩ = some (.string nm) := (hbox_cell aB 0).1; have a1 : w2.cell? ⟨w.heap.size, 1, none⟩ = some (.int .i64 k) := (hbox_cell aB 1).1; have a2 : w2.cell? ⟨w.heap.size, 2, none⟩ = some (.int .i64 d) := (hbox_cell aB 2).1; have a3 : w2.cell? ⟨w.heap.size, 3, none⟩ = some (.int .i64 c) := (hbox_cell aB 3).1; have a4 : w2.cell? ⟨w.heap.size, 4, none⟩ = some (.int .i64 m) := (hbox_cell aB 4).1; have a5 : w2.cell? ⟨w.heap.size, 5, none⟩ = some (.int .i64 l) := (hbox_cell aB 5).1; clear hb2 aB)
        | (go_at_call 12; (with_reducible refine (HPR.out _ (HT.out _ HC2.out)).mono ?_); rintro e w3 ⟨rfl, hb3⟩; have HC3 := Lib.hid (hstep HC2.out hb3); clear hb3 a0 a1 a2 a3 a4 a5)
        | (go_at_call 15; (with_reducible refine (HLC.out _).mono ?_); rintro e w4 ⟨lv, rfl, hl4, hb4⟩; go_loud (have HC4 := Lib.hid (hstep HC3.out hb4); rw [HLL.out] at hl4; obtain ⟨g, cl, rfl, hg⟩ := rows_at hl4 (by omega); obtain ⟨x0, x1, x2⟩ := hline_cells3 (L := LL) (by rw [HLL.out]; exact hl4) HLX.out; clear hl4 hb4))
        | (go_at_call 14; (with_reducible refine (HPA.out _ (HT.out _ (hstep HC4.out (below_one_h w4 (.cells #[.int .i64 (o0 : Nat), .int .i64 (o1 : Nat), .int .i64 (o2 : Nat)] 39))))).mono ?_); rintro e w6 ⟨rfl, hb6⟩; have HC6 := Lib.hid (hstep (hstep (hstep HC4.out (below_one_h w4 (.cells #[.int .i64 (o0 : Nat), .int .i64 (o1 : Nat), .int .i64 (o2 : Nat)] 39))) hb6) (below_two_n w6 (.cells #[.string ⟨#[]⟩, .int .i64 0, .int .i64 0, .int .i64 0, .int .i64 0, .int .i64 0] 23) (.cells #[.int .i64 (P.size : Int), .int .i64 140] 32))); clear hb6)
        | (go_at_call 14; (with_reducible refine (HPK.out _ (HT.out _ HC6.out)).mono ?_); rintro e w7 ⟨rfl, hb7⟩; have HC7 := Lib.hid (hstep HC6.out hb7); clear hb7))
        go_ret
        exact ⟨rfl, hstep HC7.out (below_two_n _ _ _)⟩
      · have n1 : (key.toList == [78, 65, 77, 69, 83]) = false := by rw [htext_beq]; exact decide_eq_false hk1
        by_cases hk2 : key = ⟨#[83, 69, 67, 84, 73, 79, 78]⟩
        · subst hk2
          have HPK := Lib.hid fun W hW => HPZ.out ⟨#[83, 69, 67, 84, 73, 79, 78]⟩ W (by simp) (by decide) hW
          have hks : (⟨#[83, 69, 67, 84, 73, 79, 78]⟩ : ByteArray).size = 7 := rfl
          have z2 : ¬ 9223372036854775807 < P.size + 7 := by omega
          have z3 : ¬ 9223372036854775807 < P.size + 7 + 5 := by omega
          clear HPZ hPl
          go_enter Tryd.func6, Tryd.ntmps6
          go_wp2_with (first
          | (go_at_call 11; (with_reducible refine (HMR.out _).mono ?_); rintro e w1 ⟨rfl, hb1⟩; have HC1 := Lib.hid (hstep HC0.out hb1); have HX1 := Lib.hid (hbox_next HX0.out hb1); clear hb1)
          | (go_at_call 9; (with_reducible refine (HSH.out _ (HT.out _ HC1.out)).mono ?_); rintro e w2 ⟨rfl, hb2⟩; have HC2 := Lib.hid (hstep HC1.out hb2); have aB := hbox_next HX1.out hb2; have a0 : w2.cell? ⟨w.heap.size, 0, none⟩ = some (.string nm) := (hbox_cell aB 0).1; have a1 : w2.cell? ⟨w.heap.size, 1, none⟩ = some (.int .i64 k) := (hbox_cell aB 1).1; have a2 : w2.cell? ⟨w.heap.size, 2, none⟩ = some (.int .i64 d) := (hbox_cell aB 2).1; have a3 : w2.cell? ⟨w.heap.size, 3, none⟩ = some (.int .i64 c) := (hbox_cell aB 3).1; have a4 : w2.cell? ⟨w.heap.size, 4, none⟩ = some (.int .i64 m) := (hbox_cell aB 4).1; have a5 : w2.cell? ⟨w.heap.size, 5, none⟩ = some (.int .i64 l) := (hbox_cell aB 5).1; clear hb2 aB)
          | (go_at_call 12; (with_reducible refine (HPR.out _ (HT.out _ HC2.out)).mono ?_); rintro e w3 ⟨rfl, hb3⟩; have HC3 := Lib.hid (hstep HC2.out hb3); clear hb3 a0 a1 a2 a3 a4 a5)
          | (go_at_call 15; (with_reducible refine (HLC.out _).mono ?_); rintro e w4 ⟨lv, rfl, hl4, hb4⟩; go_loud (have HC4 := Lib.hid (hstep HC3.out hb4); rw [HLL.out] at hl4; obtain ⟨g, cl, rfl, hg⟩ := rows_at hl4 (by omega); obtain ⟨x0, x1, x2⟩ := hline_cells3 (L := LL) (by rw [HLL.out]; exact hl4) HLX.out; clear hl4 hb4))
          | (go_at_call 14; (with_reducible refine (HPA.out _ (HT.out _ (hstep HC4.out (below_one_h w4 (.cells #[.int .i64 (o0 : Nat), .int .i64 (o1 : Nat), .int .i64 (o2 : Nat)] 39))))).mono ?_); rintro e w6 ⟨rfl, hb6⟩; have HC6 := Lib.hid (hstep (hstep (hstep HC4.out (below_one_h w4 (.cells #[.int .i64 (o0 : Nat), .int .i64 (o1 : Nat), .int .i64 (o2 : Nat)] 39))) hb6) (below_two_n w6 (.cells #[.string ⟨#[]⟩, .int .i64 0, .int .i64 0, .int .i64 0, .int .i64 0, .int .i64 0] 23) (.cells #[.int .i64 (P.size : Int), .int .i64 140] 32))); clear hb6)
          | (go_at_call 14; (with_reducible refine (HPK.out _ (HT.out _ HC6.out)).mono ?_); rintro e w7 ⟨rfl, hb7⟩; have HC7 := Lib.hid (hstep HC6.out hb7); clear hb7))
          go_ret
          exact ⟨rfl, hstep HC7.out (below_two_n _ _ _)⟩
        · have n2 : (key.toList == [83, 69, 67, 84, 73, 79, 78]) = false := by rw [htext_beq]; exact decide_eq_false hk2
          by_cases hk3 : key = ⟨#[67, 65, 80, 65, 67, 73, 84, 73, 69, 83]⟩
          · subst hk3
            have HPK := Lib.hid fun W hW => HPZ.out ⟨#[67, 65, 80, 65, 67, 73, 84, 73, 69, 83]⟩ W (by simp) (by decide) hW
            have hks : (⟨#[67, 65, 80, 65, 67, 73, 84, 73, 69, 83]⟩ : ByteArray).size = 10 := rfl
            have z2 : ¬ 9223372036854775807 < P.size + 10 := by omega
            have z3 : ¬ 9223372036854775807 < P.size + 10 + 5 := by omega
            clear HPZ hPl
            go_enter Tryd.func6, Tryd.ntmps6
            go_wp2_with (first
            | (go_at_call 11; (with_reducible refine (HMR.out _).mono ?_); rintro e w1 ⟨rfl, hb1⟩; have HC1 := Lib.hid (hstep HC0.out hb1); have HX1 := Lib.hid (hbox_next HX0.out hb1); clear hb1)
            | (go_at_call 9; (with_reducible refine (HSH.out _ (HT.out _ HC1.out)).mono ?_); rintro e w2 ⟨rfl, hb2⟩; have HC2 := Lib.hid (hstep HC1.out hb2); have aB := hbox_next HX1.out hb2; have a0 : w2.cell? ⟨w.heap.size, 0, none⟩ = some (.string nm) := (hbox_cell aB 0).1; have a1 : w2.cell? ⟨w.heap.size, 1, none⟩ = some (.int .i64 k) := (hbox_cell aB 1).1; have a2 : w2.cell? ⟨w.heap.size, 2, none⟩ = some (.int .i64 d) := (hbox_cell aB 2).1; have a3 : w2.cell? ⟨w.heap.size, 3, none⟩ = some (.int .i64 c) := (hbox_cell aB 3).1; have a4 : w2.cell? ⟨w.heap.size, 4, none⟩ = some (.int .i64 m) := (hbox_cell aB 4).1; have a5 : w2.cell? ⟨w.heap.size, 5, none⟩ = some (.int .i64 l) := (hbox_cell aB 5).1; clear hb2 aB)
            | (go_at_call 12; (with_reducible refine (HPR.out _ (HT.out _ HC2.out)).mono ?_); rintro e w3 ⟨rfl, hb3⟩; have HC3 := Lib.hid (hstep HC2.out hb3); clear hb3 a0 a1 a2 a3 a4 a5)
            | (go_at_call 15; (with_reducible refine (HLC.out _).mono ?_); rintro e w4 ⟨lv, rfl, hl4, hb4⟩; go_loud (have HC4 := Lib.hid (hstep HC3.out hb4); rw [HLL.out] at hl4; obtain ⟨g, cl, rfl, hg⟩ := rows_at hl4 (by omega); obtain ⟨x0, x1, x2⟩ := hline_cells3 (L := LL) (by rw [HLL.out]; exact hl4) HLX.out; clear hl4 hb4))
            | (go_at_call 14; (with_reducible refine (HPA.out _ (HT.out _ (hstep HC4.out (below_one_h w4 (.cells #[.int .i64 (o0 : Nat), .int .i64 (o1 : Nat), .int .i64 (o2 : Nat)] 39))))).mono ?_); rintro e w6 ⟨rfl, hb6⟩; have HC6 := Lib.hid (hstep (hstep (hstep HC4.out (below_one_h w4 (.cells #[.int .i64 (o0 : Nat), .int .i64 (o1 : Nat), .int .i64 (o2 : Nat)] 39))) hb6) (below_two_n w6 (.cells #[.string ⟨#[]⟩, .int .i64 0, .int .i64 0, .int .i64 0, .int .i64 0, .int .i64 0] 23) (.cells #[.int .i64 (P.size : Int), .int .i64 140] 32))); clear hb6)
            | (go_at_call 14; (with_reducible refine (HPK.out _ (HT.out _ HC6.out)).mono ?_); rintro e w7 ⟨rfl, hb7⟩; have HC7 := Lib.hid (hstep HC6.out hb7); clear hb7))
            go_ret
            exact ⟨rfl, hstep HC7.out (below_two_n _ _ _)⟩
          · have n3 : (key.toList == [67, 65, 80, 65, 67, 73, 84, 73, 69, 83]) = false := by rw [htext_beq]; exact decide_eq_false hk3
            go_enter Tryd.func6, Tryd.ntmps6
            go_wp2_with (first
            | (go_at_call 11; (with_reducible refine (HMR.out _).mono ?_); rintro e w1 ⟨rfl, hb1⟩; have HC1 := Lib.hid (hstep HC0.out hb1); have HX1 := Lib.hid (hbox_next HX0.out hb1); clear hb1)
            | (go_at_call 9; (with_reducible refine (HSH.out _ (HT.out _ HC1.out)).mono ?_); rintro e w2 ⟨rfl, hb2⟩; have HC2 := Lib.hid (hstep HC1.out hb2); have aB := hbox_next HX1.out hb2; have a0 : w2.cell? ⟨w.heap.size, 0, none⟩ = some (.string nm) := (hbox_cell aB 0).1; have a1 : w2.cell? ⟨w.heap.size, 1, none⟩ = some (.int .i64 k) := (hbox_cell aB 1).1; have a2 : w2.cell? ⟨w.heap.size, 2, none⟩ = some (.int .i64 d) := (hbox_cell aB 2).1; have a3 : w2.cell? ⟨w.heap.size, 3, none⟩ = some (.int .i64 c) := (hbox_cell aB 3).1; have a4 : w2.cell? ⟨w.heap.size, 4, none⟩ = some (.int .i64 m) := (hbox_cell aB 4).1; have a5 : w2.cell? ⟨w.heap.size, 5, none⟩ = some (.int .i64 l) := (hbox_cell aB 5).1; clear hb2 aB)
            | (go_at_call 12; (with_reducible refine (HPR.out _ (HT.out _ HC2.out)).mono ?_); rintro e w3 ⟨rfl, hb3⟩; have HC3 := Lib.hid (hstep HC2.out hb3); clear hb3 a0 a1 a2 a3 a4 a5)
            | (go_at_call 15; (with_reducible refine (HLC.out _).mono ?_); rintro e w4 ⟨lv, rfl, hl4, hb4⟩; go_loud (have HC4 := Lib.hid (hstep HC3.out hb4); rw [HLL.out] at hl4; obtain ⟨g, cl, rfl, hg⟩ := rows_at hl4 (by omega); obtain ⟨x0, x1, x2⟩ := hline_cells3 (L := LL) (by rw [HLL.out]; exact hl4) HLX.out; clear hl4 hb4))
            | (go_at_call 14; (with_reducible refine (HPA.out _ (HT.out _ (hstep HC4.out (below_one_h w4 (.cells #[.int .i64 (o0 : Nat), .int .i64 (o1 : Nat), .int .i64 (o2 : Nat)] 39))))).mono ?_); rintro e w6 ⟨rfl, hb6⟩; have HC6 := Lib.hid (hstep (hstep (hstep HC4.out (below_one_h w4 (.cells #[.int .i64 (o0 : Nat), .int .i64 (o1 : Nat), .int .i64 (o2 : Nat)] 39))) hb6) (below_two_n w6 (.cells #[.string ⟨#[]⟩, .int .i64 0, .int .i64 0, .int .i64 0, .int .i64 0, .int .i64 0] 23) (.cells #[.int .i64 (P.size : Int), .int .i64 140] 32))); clear hb6))
            go_ret
            exact ⟨rfl, HC6.out⟩
end Go.Proofs
