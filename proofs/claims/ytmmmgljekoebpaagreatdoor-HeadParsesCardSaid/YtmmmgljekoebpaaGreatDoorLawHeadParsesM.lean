/- The law HeadParses. Conditions: HeadC; the variables' words T. -/
import Derived.Test.YtmmmgljekoebpaaGreatDoorG09
namespace Go.Proofs
open Go.RowKit Go.Shelf Go.Hdr Go.Fx Go.Wds Go.Metric Go.Layout Go.Cur
attribute [local go_sem] Oper.semAt_some
set_option maxRecDepth 100000 in
set_option maxHeartbeats 8000000 in
theorem Tryz.HeadParses_calls {T : World → Prop} (H : Tryz.HeadC T) (s : ByteArray) (w : World) (hT0 : T w) : Calls Tryz.prog 3 #[.string s] w fun e w' => e = .returned (.bool true) ∧ Below w.heap.size w w' := by
  have HT : Hid (∀ W, Below w.heap.size w W → T W) := fun W hW => H.keep w W hT0 hW
  have HSH := Lib.hid fun W h => Tryz.shown14_calls H W h
  have HB0 := Lib.hid (Below.refl w.heap.size w)
  by_cases h1 : s.size ≤ 1000
  · have n1 : ¬ (1000 : Int) < (s.size : Int) := by omega
    have HPA := Lib.hid fun W h => H.parse s W (by omega) h
    have HPR := Lib.hid fun W => Tryz.rparse_calls s W (by omega)
    generalize parseE s = R at *
    obtain ⟨⟨nm, k, d, c, m, l⟩, at1, at2, cd⟩ := R
    simp only [hdV] at HPA HPR
    clear H hT0 h1
    go_enter Tryz.func3, Tryz.ntmps3
    go_wp2_with (first
      | (go_at_call 4; (with_reducible refine (HSH.out _ (HT.out _ HB0.out)).mono ?_); rintro e w1 ⟨rfl, hb1⟩; have HB1 := Lib.hid (hstep HB0.out hb1); clear hb1)
      | (go_at_call 5; (with_reducible refine (HPA.out _ (HT.out _ HB1.out)).mono ?_); rintro e w2 ⟨rfl, hb2⟩; go_loud (have HB2 := Lib.hid (hstep (hstep HB1.out hb2) (below_two_n w2 (.cells #[.string nm, .int .i64 k, .int .i64 d, .int .i64 c, .int .i64 m, .int .i64 l] 24) (.cells #[.int .i64 (at2 : Nat), .int .i64 cd] 27))); have HY2 := Lib.hid (hbox_one w2 (.cells #[.string nm, .int .i64 k, .int .i64 d, .int .i64 c, .int .i64 m, .int .i64 l] 24) (.cells #[.int .i64 (at2 : Nat), .int .i64 cd] 27)); have HZ2 := Lib.hid (hbox_two w2 (.cells #[.string nm, .int .i64 k, .int .i64 d, .int .i64 c, .int .i64 m, .int .i64 l] 24) (.cells #[.int .i64 (at2 : Nat), .int .i64 cd] 27)); clear hb2))
      | (go_at_call 6; (with_reducible refine (HPR.out _).mono ?_); rintro e w3 ⟨rfl, hb3⟩; go_loud (have HB3 := Lib.hid (hstep (hstep HB2.out hb3) (below_two_n w3 (.cells #[.string nm, .int .i64 k, .int .i64 d, .int .i64 c, .int .i64 m, .int .i64 l] 30) (.cells #[.int .i64 (at2 : Nat), .int .i64 cd] 27))); have aB := hbox_next HY2.out hb3; have eB := hbox_next HZ2.out hb3; have a0 : w3.cell? ⟨w2.heap.size, 0, none⟩ = some (.string nm) := (hbox_cell aB 0).1; have a1 : w3.cell? ⟨w2.heap.size, 1, none⟩ = some (.int .i64 k) := (hbox_cell aB 1).1; have a2 : w3.cell? ⟨w2.heap.size, 2, none⟩ = some (.int .i64 d) := (hbox_cell aB 2).1; have a3 : w3.cell? ⟨w2.heap.size, 3, none⟩ = some (.int .i64 c) := (hbox_cell aB 3).1; have a4 : w3.cell? ⟨w2.heap.size, 4, none⟩ = some (.int .i64 m) := (hbox_cell aB 4).1; have a5 : w3.cell? ⟨w2.heap.size, 5, none⟩ = some (.int .i64 l) := (hbox_cell aB 5).1; have e0 : w3.cell? ⟨w2.heap.size + 1, 0, none⟩ = some (.int .i64 (at2 : Nat)) := (hbox_cell eB 0).1; have e1 : w3.cell? ⟨w2.heap.size + 1, 1, none⟩ = some (.int .i64 cd) := (hbox_cell eB 1).1; have la := hbox_lt aB; have le := hbox_lt eB; clear aB eB hb3)))
    go_ret
    exact ⟨rfl, HB3.out⟩
  · have n1 : (1000 : Int) < (s.size : Int) := by omega
    clear H hT0 h1
    go_enter Tryz.func3, Tryz.ntmps3
    go_wp2_with (go_at_call 4; (with_reducible refine (HSH.out _ (HT.out _ HB0.out)).mono ?_); rintro e w1 ⟨rfl, hb1⟩)
    go_ret
    exact ⟨rfl, hb1⟩
end Go.Proofs
