/- The law HeadBack. Conditions: HeadC; the variables' words T. -/
import Derived.Test.YtmmmgljekoebpaaDoorG07
import Derived.Test.YtmmmgljekoebpaaDoorG12
namespace Go.Proofs
open Go.RowKit Go.Shelf Go.Hdr Go.Fx Go.Wds Go.Metric Go.Layout Go.Cur
attribute [local go_sem] Oper.semAt_some
set_option maxRecDepth 100000 in
set_option maxHeartbeats 16000000 in
theorem Tryd.HeadBack_calls {T : World → Prop} (H : Tryd.HeadC T) (h : Hd) (r : ByteArray) (w : World) (hT0 : T w) (hnm : h.name.size ≤ 9223372036854775807) : Calls Tryd.prog 4 #[hdV h, .string r] w fun e w' => e = .returned (.bool true) ∧ Below w.heap.size w w' := by
  have HT : Hid (∀ W, Below w.heap.size w W → T W) := fun W hW => H.keep w W hT0 hW
  have HSH := Lib.hid fun W h => Tryd.shown14_calls H W h
  have HMR := Lib.hid fun W => Tryd.rhmay_calls h W hnm
  cases hm : mayH h with
  | false =>
    rw [hm] at HMR
    obtain ⟨nm, k, d, c, m, l⟩ := h
    simp only [hdV] at HMR ⊢
    have HB0 := Lib.hid (below_one_h w (.cells #[.string nm, .int .i64 k, .int .i64 d, .int .i64 c, .int .i64 m, .int .i64 l] 23))
    clear H hT0 hm hnm
    go_enter Tryd.func4, Tryd.ntmps4
    go_wp2_with (first
      | (go_at_call 11; (with_reducible refine (HMR.out _).mono ?_); rintro e w1 ⟨rfl, hb1⟩; have HB1 := Lib.hid (hstep HB0.out hb1); clear hb1)
      | (go_at_call 9; (with_reducible refine (HSH.out _ (HT.out _ HB1.out)).mono ?_); rintro e w2 ⟨rfl, hb2⟩))
    go_ret
    exact ⟨rfl, hstep HB1.out hb2⟩
  | true =>
    rw [hm] at HMR
    by_cases hr : r.size ≤ 300
    · have n1 : ¬ (300 : Int) < (r.size : Int) := by omega
      have hPl := print_len hm
      have HPR : Hid (∀ W, T W → Calls Tryd.prog 12 #[hdV h] W fun e w' => e = .returned (.string (printE h)) ∧ Below W.heap.size W w') := fun W hW => H.print h W (by have := (name_one (mayF hm).name).2; simp at this; omega) hW
      have HB1 := back_alone hm
      have HB2 := back_sec hm r
      have HB3 := back_eof hm r
      unfold hSec at HB2
      unfold hEnd at HB3
      generalize printE h = P at *
      obtain ⟨nm, k, d, c, m, l⟩ := h
      simp only [hdV] at HMR HPR ⊢
      have sSec : (⟨#[69, 68, 71, 69, 95, 87, 69, 73, 71, 72, 84, 95, 83, 69, 67, 84, 73, 79, 78, 10]⟩ : ByteArray).size = 20 := rfl
      have sEof : (⟨#[32, 10, 69, 79, 70, 32, 58, 32, 10]⟩ : ByteArray).size = 9 := rfl
      have HP1 : Hid (∀ W, T W → Calls Tryd.prog 14 #[.string (P)] W fun e w' => e = .returned (.tuple #[.agg #[.string nm, .int .i64 k, .int .i64 d, .int .i64 c, .int .i64 m, .int .i64 l], .int .i64 ((P.size : Int)), .agg #[.int .i64 0, .int .i64 0]]) ∧ Below W.heap.size W w') := fun W hW => (H.parse _ W (by (try simp only [ByteArray.size_append]); omega) hW).mono fun e w' hh => ⟨hh.1.trans (by rw [HB1]; rfl), hh.2⟩
      have HP2 : Hid (∀ W, T W → Calls Tryd.prog 14 #[.string (P ++ ⟨#[69, 68, 71, 69, 95, 87, 69, 73, 71, 72, 84, 95, 83, 69, 67, 84, 73, 79, 78, 10]⟩ ++ r)] W fun e w' => e = .returned (.tuple #[.agg #[.string nm, .int .i64 k, .int .i64 d, .int .i64 c, .int .i64 m, .int .i64 l], .int .i64 ((P.size : Int)), .agg #[.int .i64 0, .int .i64 0]]) ∧ Below W.heap.size W w') := fun W hW => (H.parse _ W (by (try simp only [ByteArray.size_append]); omega) hW).mono fun e w' hh => ⟨hh.1.trans (by rw [HB2]; rfl), hh.2⟩
      have HP3 : Hid (∀ W, T W → Calls Tryd.prog 14 #[.string (P ++ ⟨#[32, 10, 69, 79, 70, 32, 58, 32, 10]⟩ ++ r)] W fun e w' => e = .returned (.tuple #[.agg #[.string nm, .int .i64 k, .int .i64 d, .int .i64 c, .int .i64 m, .int .i64 l], .int .i64 ((P.size : Int) + 2), .agg #[.int .i64 0, .int .i64 0]]) ∧ Below W.heap.size W w') := fun W hW => (H.parse _ W (by (try simp only [ByteArray.size_append]); omega) hW).mono fun e w' hh => ⟨hh.1.trans (by rw [HB3]; rfl), hh.2⟩
      have hPi : (P.size : Int) ≤ 384 := by omega
      have z1 : ¬ 9223372036854775807 < P.size + 20 := by omega
      have z2 : ¬ 9223372036854775807 < P.size + 20 + r.size := by omega
      have z3 : ¬ 9223372036854775807 < P.size + 9 := by omega
      have z4 : ¬ 9223372036854775807 < P.size + 9 + r.size := by omega
      have HC0 := Lib.hid (below_one_h w (.cells #[.string nm, .int .i64 k, .int .i64 d, .int .i64 c, .int .i64 m, .int .i64 l] 23))
      have HX0 := Lib.hid (World.alloc_heap_new w (.cells #[.string nm, .int .i64 k, .int .i64 d, .int .i64 c, .int .i64 m, .int .i64 l] 23))
      clear H hT0 hm hnm HB1 HB2 HB3 hPl hr sSec sEof
      go_enter Tryd.func4, Tryd.ntmps4
      go_wp2_with (first
        | (go_at_call 11; (with_reducible refine (HMR.out _).mono ?_); rintro e w1 ⟨rfl, hb1⟩; have HC1 := Lib.hid (hstep HC0.out hb1); have HX1 := Lib.hid (hbox_next HX0.out hb1); clear hb1)
        | (go_at_call 9; (with_reducible refine (HSH.out _ (HT.out _ HC1.out)).mono ?_); rintro e w2 ⟨rfl, hb2⟩; have HC2 := Lib.hid (hstep HC1.out hb2); have HX2 := Lib.hid (hbox_next HX1.out hb2); have aB := HX2.out; have a0 : w2.cell? ⟨w.heap.size, 0, none⟩ = some (.string nm) := (hbox_cell aB 0).1; have a1 : w2.cell? ⟨w.heap.size, 1, none⟩ = some (.int .i64 k) := (hbox_cell aB 1).1; have a2 : w2.cell? ⟨w.heap.size, 2, none⟩ = some (.int .i64 d) := (hbox_cell aB 2).1; have a3 : w2.cell? ⟨w.heap.size, 3, none⟩ = some (.int .i64 c) := (hbox_cell aB 3).1; have a4 : w2.cell? ⟨w.heap.size, 4, none⟩ = some (.int .i64 m) := (hbox_cell aB 4).1; have a5 : w2.cell? ⟨w.heap.size, 5, none⟩ = some (.int .i64 l) := (hbox_cell aB 5).1; clear hb2 aB)
        | (go_at_call 12; (with_reducible refine (HPR.out _ (HT.out _ HC2.out)).mono ?_); rintro e w3 ⟨rfl, hb3⟩; have HC3 := Lib.hid (hstep HC2.out hb3); have HX3 := Lib.hid (hbox_next HX2.out hb3); clear hb3 a0 a1 a2 a3 a4 a5)
        | (go_at_call 14; (with_reducible refine (HP1.out _ (HT.out _ HC3.out)).mono ?_); rintro e w4 ⟨rfl, hb4⟩; go_loud (have HC4 := Lib.hid (hstep (hstep HC3.out hb4) (below_two_n w4 (.cells #[.string nm, .int .i64 k, .int .i64 d, .int .i64 c, .int .i64 m, .int .i64 l] 23) (.cells #[.int .i64 0, .int .i64 0] 32))); have HX4 := Lib.hid (hbox_next (hbox_next HX3.out hb4) (below_two_n w4 (.cells #[.string nm, .int .i64 k, .int .i64 d, .int .i64 c, .int .i64 m, .int .i64 l] 23) (.cells #[.int .i64 0, .int .i64 0] 32))); have HY1 := Lib.hid (hbox_one w4 (.cells #[.string nm, .int .i64 k, .int .i64 d, .int .i64 c, .int .i64 m, .int .i64 l] 23) (.cells #[.int .i64 0, .int .i64 0] 32)); have HZ1 := Lib.hid (hbox_two w4 (.cells #[.string nm, .int .i64 k, .int .i64 d, .int .i64 c, .int .i64 m, .int .i64 l] 23) (.cells #[.int .i64 0, .int .i64 0] 32)); clear hb4))
        | (go_at_call 14; (with_reducible refine (HP2.out _ (HT.out _ HC4.out)).mono ?_); rintro e w5 ⟨rfl, hb5⟩; go_loud (have hb := hstep hb5 (below_two_n w5 (.cells #[.string nm, .int .i64 k, .int .i64 d, .int .i64 c, .int .i64 m, .int .i64 l] 23) (.cells #[.int .i64 0, .int .i64 0] 32)); have HC5 := Lib.hid (hstep HC4.out hb); have HX5 := Lib.hid (hbox_next HX4.out hb); have HY2 := Lib.hid (hbox_next HY1.out hb); have HZ2 := Lib.hid (hbox_next HZ1.out hb); have HU2 := Lib.hid (hbox_one w5 (.cells #[.string nm, .int .i64 k, .int .i64 d, .int .i64 c, .int .i64 m, .int .i64 l] 23) (.cells #[.int .i64 0, .int .i64 0] 32)); have HV2 := Lib.hid (hbox_two w5 (.cells #[.string nm, .int .i64 k, .int .i64 d, .int .i64 c, .int .i64 m, .int .i64 l] 23) (.cells #[.int .i64 0, .int .i64 0] 32)); clear hb5 hb))
        | (go_at_call 14; (with_reducible refine (HP3.out _ (HT.out _ HC5.out)).mono ?_); rintro e w6 ⟨rfl, hb6⟩; go_loud (have HC6 := Lib.hid (hstep HC5.out hb6); have aB := hbox_next HX5.out hb6; have bB := hbox_next HY2.out hb6; have cB := hbox_next HZ2.out hb6; have dB := hbox_next HU2.out hb6; have eB := hbox_next HV2.out hb6; have a0 : w6.cell? ⟨w.heap.size, 0, none⟩ = some (.string nm) := (hbox_cell aB 0).1; have a1 : w6.cell? ⟨w.heap.size, 1, none⟩ = some (.int .i64 k) := (hbox_cell aB 1).1; have a2 : w6.cell? ⟨w.heap.size, 2, none⟩ = some (.int .i64 d) := (hbox_cell aB 2).1; have a3 : w6.cell? ⟨w.heap.size, 3, none⟩ = some (.int .i64 c) := (hbox_cell aB 3).1; have a4 : w6.cell? ⟨w.heap.size, 4, none⟩ = some (.int .i64 m) := (hbox_cell aB 4).1; have a5 : w6.cell? ⟨w.heap.size, 5, none⟩ = some (.int .i64 l) := (hbox_cell aB 5).1; have b0 : w6.cell? ⟨w4.heap.size, 0, none⟩ = some (.string nm) := (hbox_cell bB 0).1; have b1 : w6.cell? ⟨w4.heap.size, 1, none⟩ = some (.int .i64 k) := (hbox_cell bB 1).1; have b2 : w6.cell? ⟨w4.heap.size, 2, none⟩ = some (.int .i64 d) := (hbox_cell bB 2).1; have b3 : w6.cell? ⟨w4.heap.size, 3, none⟩ = some (.int .i64 c) := (hbox_cell bB 3).1; have b4 : w6.cell? ⟨w4.heap.size, 4, none⟩ = some (.int .i64 m) := (hbox_cell bB 4).1; have b5 : w6.cell? ⟨w4.heap.size, 5, none⟩ = some (.int .i64 l) := (hbox_cell bB 5).1; have c0 : w6.cell? ⟨w4.heap.size + 1, 0, none⟩ = some (.int .i64 0) := (hbox_cell cB 0).1; have c1 : w6.cell? ⟨w4.heap.size + 1, 1, none⟩ = some (.int .i64 0) := (hbox_cell cB 1).1; have d0 : w6.cell? ⟨w5.heap.size, 0, none⟩ = some (.string nm) := (hbox_cell dB 0).1; have d1 : w6.cell? ⟨w5.heap.size, 1, none⟩ = some (.int .i64 k) := (hbox_cell dB 1).1; have d2 : w6.cell? ⟨w5.heap.size, 2, none⟩ = some (.int .i64 d) := (hbox_cell dB 2).1; have d3 : w6.cell? ⟨w5.heap.size, 3, none⟩ = some (.int .i64 c) := (hbox_cell dB 3).1; have d4 : w6.cell? ⟨w5.heap.size, 4, none⟩ = some (.int .i64 m) := (hbox_cell dB 4).1; have d5 : w6.cell? ⟨w5.heap.size, 5, none⟩ = some (.int .i64 l) := (hbox_cell dB 5).1; have e0 : w6.cell? ⟨w5.heap.size + 1, 0, none⟩ = some (.int .i64 0) := (hbox_cell eB 0).1; have e1 : w6.cell? ⟨w5.heap.size + 1, 1, none⟩ = some (.int .i64 0) := (hbox_cell eB 1).1; have la := hbox_lt aB; have lb := hbox_lt bB; have lc := hbox_lt cB; have ld := hbox_lt dB; have le := hbox_lt eB; have la1 : w.heap.size < w6.heap.size + 1 := (by omega); have lb1 : w4.heap.size < w6.heap.size + 1 := (by omega); have ld1 : w5.heap.size < w6.heap.size + 1 := (by omega); have la2 : w.heap.size < w6.heap.size + 1 + 1 := (by omega); have lb2 : w4.heap.size < w6.heap.size + 1 + 1 := (by omega); have ld2 : w5.heap.size < w6.heap.size + 1 + 1 := (by omega); clear hb6 aB bB cB dB eB)))
      go_ret
      exact ⟨rfl, hstep (hstep HC6.out (below_two_n w6 (.cells #[.string nm, .int .i64 k, .int .i64 d, .int .i64 c, .int .i64 m, .int .i64 l] 23) (.cells #[.int .i64 0, .int .i64 0] 32))) (below_one_h _ _)⟩
    · have n1 : (300 : Int) < (r.size : Int) := by omega
      obtain ⟨nm, k, d, c, m, l⟩ := h
      simp only [hdV] at HMR ⊢
      have HB0 := Lib.hid (below_one_h w (.cells #[.string nm, .int .i64 k, .int .i64 d, .int .i64 c, .int .i64 m, .int .i64 l] 23))
      clear H hT0 hm hnm hr
      go_enter Tryd.func4, Tryd.ntmps4
      go_wp2_with (first
        | (go_at_call 11; (with_reducible refine (HMR.out _).mono ?_); rintro e w1 ⟨rfl, hb1⟩; have HB1 := Lib.hid (hstep HB0.out hb1); clear hb1)
        | (go_at_call 9; (with_reducible refine (HSH.out _ (HT.out _ HB1.out)).mono ?_); rintro e w2 ⟨rfl, hb2⟩))
      go_ret
      exact ⟨rfl, hstep HB1.out hb2⟩
end Go.Proofs
