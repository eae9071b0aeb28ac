/- Layer 14's own helper: what package head is to answer (HeadC), and shown. Conditions: HeadC; the variables' words T. -/
import Derived.Test.YtmmmgljekoebpaaGreatDoorG06
import Derived.Test.YtmmmgljekoebpaaGreatDoorG07
import Derived.Test.YtmmmgljekoebpaaGreatDoorG08
import Derived.Test.YtmmmgljekoebpaaGreatDoorG05
import Derived.Test.YtmmmgljekoebpaaGreatDoorG02
import Derived.Maps.Own
import Derived.Maps.OwnSet
import Derived.Maps.Views
import Derived.Below
import Derived.Carry
import Derived.Test.YtmmmgljekoebpaaGreatDoorProg
import Derived.WalkKit
import Derived.Test.YtmmmgljekoebpaaGreatDoorG01
namespace Go.Hdr
open Go.Wds Go.Proofs Go.Cur Go.Fx Go.Metric Go.Layout
def hT : Hd := ⟨⟨#[116]⟩, 1, 3, 0, 1, 0⟩
theorem sh_print : printE hT = ⟨#[78, 65, 77, 69, 32, 58, 32, 116, 10, 84, 89, 80, 69, 32, 58, 32, 84, 83, 80, 10, 68, 73, 77, 69, 78, 83, 73, 79, 78, 32, 58, 32, 51, 10, 69, 68, 71, 69, 95, 87, 69, 73, 71, 72, 84, 95, 84, 89, 80, 69, 32, 58, 32, 69, 85, 67, 95, 50, 68, 10]⟩ := by decide +kernel
theorem sh_may : mayH hT = true := by decide +kernel
theorem sh_parse : parseE ⟨#[78, 65, 77, 69, 32, 58, 32, 116, 10, 84, 89, 80, 69, 32, 58, 32, 84, 83, 80, 10, 68, 73, 77, 69, 78, 83, 73, 79, 78, 32, 58, 32, 51, 10, 69, 68, 71, 69, 95, 87, 69, 73, 71, 72, 84, 95, 84, 89, 80, 69, 32, 58, 32, 69, 85, 67, 95, 50, 68, 10, 78, 79, 68, 69, 95, 67, 79, 79, 82, 68, 95, 83, 69, 67, 84, 73, 79, 78, 10]⟩ = (hT, 60, 0, 0) := by decide +kernel
theorem sh_bad : parseE ⟨#[78, 65, 77, 69, 32, 58, 32, 116, 10, 84, 89, 80, 69, 32, 58, 32, 88, 10]⟩ = (hd0, 0, 16, 141) := by decide +kernel
end Go.Hdr
namespace Go.Proofs
open Go.RowKit Go.Shelf Go.Hdr Go.Fx Go.Wds Go.Metric Go.Layout Go.Cur
attribute [local go_sem] Oper.semAt_some
/-- What package head is to answer, where the variables hold what T says. -/
structure Tryz.HeadC (T : World → Prop) : Prop where
  keep : ∀ W W', T W → Below W.heap.size W W' → T W'
  may : ∀ (h : Hd) (W : World), h.name.size ≤ 100000 → T W → Calls Tryz.prog 8 #[hdV h] W fun e w' => e = .returned (.bool (mayH h)) ∧ Below W.heap.size W w'
  print : ∀ (h : Hd) (W : World), h.name.size ≤ 100000 → T W → Calls Tryz.prog 7 #[hdV h] W fun e w' => e = .returned (.string (printE h)) ∧ Below W.heap.size W w'
  parse : ∀ (s : ByteArray) (W : World), s.size ≤ 3000 → T W → Calls Tryz.prog 5 #[.string s] W fun e w' => e = .returned (.tuple #[hdV (parseE s).1, .int .i64 ((parseE s).2.1 : Nat), .agg #[.int .i64 ((parseE s).2.2.1 : Nat), .int .i64 (parseE s).2.2.2]]) ∧ Below W.heap.size W w'
theorem hstep {w W W' : World} (h : Below w.heap.size w W) (hb : Below W.heap.size W W') : Below w.heap.size w W' := h.trans (hb.mono h.size)
theorem hbox_next {W W' : World} {B : Nat} {o : Obj} (h : W.heap[B]? = some o) (hb : Below W.heap.size W W') : W'.heap[B]? = some o := (hb.block _ (Array.getElem?_eq_some_iff.1 h).1).trans h
theorem hbox_one (W : World) (o o' : Obj) : ((W.alloc o).alloc o').heap[W.heap.size]? = some o := hbox_next (World.alloc_heap_new W o) (below_one_h _ _)
theorem hbox_two (W : World) (o o' : Obj) : ((W.alloc o).alloc o').heap[W.heap.size + 1]? = some o' := by
  have := World.alloc_heap_new (W.alloc o) o'
  rwa [World.size_alloc] at this
theorem hbox_lt {W : World} {B : Nat} {o : Obj} (h : W.heap[B]? = some o) : B < W.heap.size := (Array.getElem?_eq_some_iff.1 h).1
set_option maxRecDepth 100000 in
set_option maxHeartbeats 8000000 in
theorem Tryz.shown14_calls {T : World → Prop} (H : Tryz.HeadC T) (w : World) (hT0 : T w) : Calls Tryz.prog 4 #[] w fun e w' => e = .returned (.bool true) ∧ Below w.heap.size w w' := by
  have HT : Hid (∀ W, Below w.heap.size w W → T W) := fun W hW => H.keep w W hT0 hW
  have HPR : Hid (∀ W, T W → Calls Tryz.prog 7 #[.agg #[.string ⟨#[116]⟩, .int .i64 1, .int .i64 3, .int .i64 0, .int .i64 1, .int .i64 0]] W fun e w' => e = .returned (.string ⟨#[78, 65, 77, 69, 32, 58, 32, 116, 10, 84, 89, 80, 69, 32, 58, 32, 84, 83, 80, 10, 68, 73, 77, 69, 78, 83, 73, 79, 78, 32, 58, 32, 51, 10, 69, 68, 71, 69, 95, 87, 69, 73, 71, 72, 84, 95, 84, 89, 80, 69, 32, 58, 32, 69, 85, 67, 95, 50, 68, 10]⟩) ∧ Below W.heap.size W w') := fun W h => (H.print hT W (by decide) h).mono fun e w' h => ⟨h.1.trans (by rw [sh_print]), h.2⟩
  have HPA : Hid (∀ x W, x = ⟨#[78, 65, 77, 69, 32, 58, 32, 116, 10, 84, 89, 80, 69, 32, 58, 32, 84, 83, 80, 10, 68, 73, 77, 69, 78, 83, 73, 79, 78, 32, 58, 32, 51, 10, 69, 68, 71, 69, 95, 87, 69, 73, 71, 72, 84, 95, 84, 89, 80, 69, 32, 58, 32, 69, 85, 67, 95, 50, 68, 10, 78, 79, 68, 69, 95, 67, 79, 79, 82, 68, 95, 83, 69, 67, 84, 73, 79, 78, 10]⟩ → T W → Calls Tryz.prog 5 #[.string x] W fun e w' => e = .returned (.tuple #[.agg #[.string ⟨#[116]⟩, .int .i64 1, .int .i64 3, .int .i64 0, .int .i64 1, .int .i64 0], .int .i64 60, .agg #[.int .i64 0, .int .i64 0]]) ∧ Below W.heap.size W w') := fun x W e h => (H.parse x W (by rw [e]; decide) h).mono fun e' w' h => ⟨h.1.trans (by rw [e, sh_parse]; rfl), h.2⟩
  have HPB : Hid (∀ W, T W → Calls Tryz.prog 5 #[.string ⟨#[78, 65, 77, 69, 32, 58, 32, 116, 10, 84, 89, 80, 69, 32, 58, 32, 88, 10]⟩] W fun e w' => e = .returned (.tuple #[.agg #[.string ⟨#[]⟩, .int .i64 0, .int .i64 0, .int .i64 0, .int .i64 0, .int .i64 0], .int .i64 0, .agg #[.int .i64 16, .int .i64 141]]) ∧ Below W.heap.size W w') := fun W h => (H.parse _ W (by decide) h).mono fun e' w' h => ⟨h.1.trans (by rw [sh_bad]; rfl), h.2⟩
  have HMA : Hid (∀ W, T W → Calls Tryz.prog 8 #[.agg #[.string ⟨#[116]⟩, .int .i64 1, .int .i64 3, .int .i64 0, .int .i64 1, .int .i64 0]] W fun e w' => e = .returned (.bool true) ∧ Below W.heap.size W w') := fun W h => (H.may hT W (by decide) h).mono fun e w' h => ⟨h.1.trans (by rw [sh_may]), h.2⟩
  clear H hT0
  go_enter Tryz.func4, Tryz.ntmps4
  go_wp2_with (first
    | (go_at_call 7; (with_reducible refine (HPR.out _ (HT.out _ (below_one_h _ _))).mono ?_); rintro e w1 ⟨rfl, hb1⟩; go_loud (have HB1 := Lib.hid (hstep (below_one_h w (.cells #[.string ⟨#[116]⟩, .int .i64 1, .int .i64 3, .int .i64 0, .int .i64 1, .int .i64 0] 24)) hb1); have HX1 := Lib.hid (hbox_next (World.alloc_heap_new w (.cells #[.string ⟨#[116]⟩, .int .i64 1, .int .i64 3, .int .i64 0, .int .i64 1, .int .i64 0] 24)) hb1); clear hb1))
    | (go_at_call 5; (with_reducible refine (HPB.out _ (HT.out _ HB2.out)).mono ?_); rintro e w3 ⟨rfl, hb3⟩; go_loud (have HB3 := Lib.hid (hstep (hstep HB2.out hb3) (below_two_n w3 (.cells #[.string ⟨#[]⟩, .int .i64 0, .int .i64 0, .int .i64 0, .int .i64 0, .int .i64 0] 24) (.cells #[.int .i64 16, .int .i64 141] 27))); have aB := hbox_next HX2.out hb3; have cB := hbox_next HY2.out hb3; have eB := hbox_next HZ2.out hb3; have a0 : w3.cell? ⟨w.heap.size, 0, none⟩ = some (.string ⟨#[116]⟩) := (hbox_cell aB 0).1; have a1 : w3.cell? ⟨w.heap.size, 1, none⟩ = some (.int .i64 1) := (hbox_cell aB 1).1; have a2 : w3.cell? ⟨w.heap.size, 2, none⟩ = some (.int .i64 3) := (hbox_cell aB 2).1; have a3 : w3.cell? ⟨w.heap.size, 3, none⟩ = some (.int .i64 0) := (hbox_cell aB 3).1; have a4 : w3.cell? ⟨w.heap.size, 4, none⟩ = some (.int .i64 1) := (hbox_cell aB 4).1; have a5 : w3.cell? ⟨w.heap.size, 5, none⟩ = some (.int .i64 0) := (hbox_cell aB 5).1; have c0 : w3.cell? ⟨w2.heap.size, 0, none⟩ = some (.string ⟨#[116]⟩) := (hbox_cell cB 0).1; have c1 : w3.cell? ⟨w2.heap.size, 1, none⟩ = some (.int .i64 1) := (hbox_cell cB 1).1; have c2 : w3.cell? ⟨w2.heap.size, 2, none⟩ = some (.int .i64 3) := (hbox_cell cB 2).1; have c3 : w3.cell? ⟨w2.heap.size, 3, none⟩ = some (.int .i64 0) := (hbox_cell cB 3).1; have c4 : w3.cell? ⟨w2.heap.size, 4, none⟩ = some (.int .i64 1) := (hbox_cell cB 4).1; have c5 : w3.cell? ⟨w2.heap.size, 5, none⟩ = some (.int .i64 0) := (hbox_cell cB 5).1; have e0 : w3.cell? ⟨w2.heap.size + 1, 0, none⟩ = some (.int .i64 0) := (hbox_cell eB 0).1; have e1 : w3.cell? ⟨w2.heap.size + 1, 1, none⟩ = some (.int .i64 0) := (hbox_cell eB 1).1; have la := hbox_lt aB; have lc := hbox_lt cB; have le := hbox_lt eB; clear aB cB eB hb3))
    | (go_at_call 5; refine (HPA.out _ _ (by decide +kernel) (HT.out _ HB1.out)).mono ?_; rintro e w2 ⟨rfl, hb2⟩; go_loud (have HB2 := Lib.hid (hstep (hstep HB1.out hb2) (below_two_n w2 (.cells #[.string ⟨#[116]⟩, .int .i64 1, .int .i64 3, .int .i64 0, .int .i64 1, .int .i64 0] 24) (.cells #[.int .i64 0, .int .i64 0] 27))); have HX2 := Lib.hid (hbox_next (hbox_next HX1.out hb2) (below_two_n w2 (.cells #[.string ⟨#[116]⟩, .int .i64 1, .int .i64 3, .int .i64 0, .int .i64 1, .int .i64 0] 24) (.cells #[.int .i64 0, .int .i64 0] 27))); have HY2 := Lib.hid (hbox_one w2 (.cells #[.string ⟨#[116]⟩, .int .i64 1, .int .i64 3, .int .i64 0, .int .i64 1, .int .i64 0] 24) (.cells #[.int .i64 0, .int .i64 0] 27)); have HZ2 := Lib.hid (hbox_two w2 (.cells #[.string ⟨#[116]⟩, .int .i64 1, .int .i64 3, .int .i64 0, .int .i64 1, .int .i64 0] 24) (.cells #[.int .i64 0, .int .i64 0] 27)); clear hb2))
    | (go_at_call 8; (with_reducible refine (HMA.out _ (HT.out _ HB3.out)).mono ?_); rintro e w4 ⟨rfl, hb4⟩; have HB4 := Lib.hid (hstep HB3.out hb4); clear hb4))
  go_ret
  exact ⟨rfl, HB4.out⟩
end Go.Proofs
/- The landed head's small helpers: within, keyword, capFits, layoutFits, line, skipped. Conditions: the table of layouts holds what the card lays; texts are short. -/
namespace Go.Hdr
/-- The keyword of a kind. -/
def kwK (k : Int) : ByteArray := if k = 1 then hkTsp else if k = 2 then hkCvrp else ⟨#[]⟩
def capB (h : Hd) : Bool := if h.kind = 2 then decide (1 ≤ h.cap ∧ h.cap ≤ 100000000) else decide (h.cap = 0)
def layB (h : Hd) : Bool := if h.met = 0 then decide (¬ Go.Layout.lkwS h.lay = ⟨#[]⟩) else decide (h.lay = 0)
end Go.Hdr
namespace Go.Proofs
open Go.RowKit Go.Shelf Go.Hdr Go.Fx Go.Wds Go.Metric Go.Layout
attribute [local go_sem] Oper.semAt_some
theorem Tryz.within_calls (n most : Int) (w : World) :
    Calls Tryz.prog 24 #[.int .i64 n, .int .i64 most] w fun e w' => e = .returned (.bool (decide (1 ≤ n ∧ n ≤ most))) ∧ w' = w := by
  by_cases h1 : 1 ≤ n
  · have d1 : decide (1 ≤ n) = true := decide_eq_true h1
    have HV := Lib.hid (show decide (1 ≤ n ∧ n ≤ most) = decide (n ≤ most) by simp [h1])
    go_enter Tryz.func24, Tryz.ntmps24
    go_wp2
    go_ret
    rw [HV.out]; exact ⟨rfl, rfl⟩
  · have d1 : decide (1 ≤ n) = false := decide_eq_false h1
    have HV := Lib.hid (show decide (1 ≤ n ∧ n ≤ most) = false by simp [h1])
    go_enter Tryz.func24, Tryz.ntmps24
    go_wp2
    go_ret
    exact ⟨rfl, rfl⟩
theorem Tryz.kwK_calls (k : Int) (w : World) :
    Calls Tryz.prog 19 #[.int .i64 k] w fun e w' => e = .returned (.string (kwK k)) ∧ w' = w := by
  by_cases h1 : k = 1
  · subst h1
    go_enter Tryz.func19, Tryz.ntmps19
    go_wp2
    go_ret
    exact ⟨rfl, rfl⟩
  by_cases h2 : k = 2
  · subst h2
    go_enter Tryz.func19, Tryz.ntmps19
    go_wp2
    go_ret
    exact ⟨rfl, rfl⟩
  have d1 : (k == 1) = false := by rw [beq_eq_false_iff_ne]; exact h1
  have d2 : (k == 2) = false := by rw [beq_eq_false_iff_ne]; exact h2
  have HV := Lib.hid (show kwK k = ⟨#[]⟩ by unfold kwK; rw [if_neg h1, if_neg h2])
  go_enter Tryz.func19, Tryz.ntmps19
  go_wp2
  go_ret
  rw [HV.out]; exact ⟨rfl, rfl⟩
set_option maxRecDepth 100000 in
theorem Tryz.capFits_calls (h : Hd) (w : World) :
    Calls Tryz.prog 25 #[hdV h] w fun e w' => e = .returned (.bool (capB h)) ∧ Below w.heap.size w w' := by
  obtain ⟨nm, k, d, c, m, l⟩ := h
  unfold hdV
  have RW := fun w => Tryz.within_calls c 100000000 w
  by_cases h2 : k = 2
  · have HV := Lib.hid (show capB ⟨nm, k, d, c, m, l⟩ = decide (1 ≤ c ∧ c ≤ 100000000) by unfold capB; rw [if_pos h2])
    subst h2
    generalize decide (1 ≤ c ∧ c ≤ 100000000) = q at *
    go_enter Tryz.func25, Tryz.ntmps25
    go_wp2_with (go_at_call 24; (with_reducible refine (RW _).mono ?_); rintro e w1 ⟨rfl, hw1⟩; subst hw1)
    go_ret
    rw [HV.out]; exact ⟨rfl, (Below.refl _ _).alloc (Nat.le_refl _) _⟩
  · have d2 : (k == 2) = false := by rw [beq_eq_false_iff_ne]; exact h2
    have HV := Lib.hid (show capB ⟨nm, k, d, c, m, l⟩ = (c == 0) by unfold capB; rw [if_neg h2]; rfl)
    go_enter Tryz.func25, Tryz.ntmps25
    go_wp2_with (go_at_call 24; (with_reducible refine (RW _).mono ?_); rintro e w1 ⟨rfl, hw1⟩; subst hw1)
    go_ret
    rw [HV.out]; exact ⟨rfl, (Below.refl _ _).alloc (Nat.le_refl _) _⟩
set_option maxRecDepth 100000 in
theorem Tryz.layFits_calls (h : Hd) (w : World) (hT : LayTab w) :
    Calls Tryz.prog 26 #[hdV h] w fun e w' => e = .returned (.bool (layB h)) ∧ Below w.heap.size w w' := by
  obtain ⟨nm, k, d, c, m, l⟩ := h
  unfold hdV
  have RW := Lib.hid fun w => Tryz.LKeyword_calls l w
  have HT := Lib.hid fun o => hT.below ((Below.refl w.heap.size w).alloc (Nat.le_refl _) o)
  clear hT
  by_cases h2 : m = 0
  · have HV := Lib.hid (show layB ⟨nm, k, d, c, m, l⟩ = decide (¬ lkwS l = ⟨#[]⟩) by unfold layB; rw [if_pos h2])
    subst h2
    generalize lkwS l = q at *
    by_cases hq : q = ⟨#[]⟩
    · subst hq
      go_enter Tryz.func26, Tryz.ntmps26
      go_wp2_with (go_at_call 22; (with_reducible refine (RW.out _ (HT.out _)).mono ?_); rintro e w1 ⟨rfl, hw1⟩; subst hw1)
      go_ret
      rw [HV.out]; exact ⟨rfl, (Below.refl _ _).alloc (Nat.le_refl _) _⟩
    · have e1 : (q.toList == []) = false := by have := htext_beq q []; rw [this]; simpa using hq
      have HV2 := Lib.hid (show decide (¬ q = ⟨#[]⟩) = true by simpa using hq)
      go_enter Tryz.func26, Tryz.ntmps26
      go_wp2_with (go_at_call 22; (with_reducible refine (RW.out _ (HT.out _)).mono ?_); rintro e w1 ⟨rfl, hw1⟩; subst hw1)
      go_ret
      rw [HV.out, HV2.out]; exact ⟨rfl, (Below.refl _ _).alloc (Nat.le_refl _) _⟩
  · have d2 : (m == 0) = false := by rw [beq_eq_false_iff_ne]; exact h2
    have HV := Lib.hid (show layB ⟨nm, k, d, c, m, l⟩ = (l == 0) by unfold layB; rw [if_neg h2]; rfl)
    go_enter Tryz.func26, Tryz.ntmps26
    go_wp2_with (go_at_call 22; (with_reducible refine (RW.out _ (HT.out _)).mono ?_); rintro e w1 ⟨rfl, hw1⟩; subst hw1)
    go_ret
    rw [HV.out]; exact ⟨rfl, (Below.refl _ _).alloc (Nat.le_refl _) _⟩
set_option maxRecDepth 100000 in
theorem Tryz.hline_calls (k v : ByteArray) (w : World) (hk : k.size ≤ 100) (hv : v.size ≤ 100000) :
    Calls Tryz.prog 18 #[.string k, .string v] w fun e w' => e = .returned (.string (lineH k v)) ∧ w' = w := by
  have s1 : (k ++ (⟨#[32, 58, 32]⟩ : ByteArray)).size = k.size + 3 := by simp [ByteArray.size_append]; rfl
  go_enter Tryz.func18, Tryz.ntmps18
  go_wp2
  go_ret
  exact ⟨rfl, rfl⟩
set_option maxRecDepth 100000 in
theorem Tryz.skipped_calls (k : ByteArray) (w : World) :
    Calls Tryz.prog 30 #[.string k] w fun e w' => e = .returned (.bool (skipB k)) ∧ w' = w := by
  have HS := Lib.hid (show skipB k = ((k.toList == [67, 79, 77, 77, 69, 78, 84] || k.toList == [68, 73, 83, 80, 76, 65, 89, 95, 68, 65, 84, 65, 95, 84, 89, 80, 69]) || k.toList == [78, 79, 68, 69, 95, 67, 79, 79, 82, 68, 95, 84, 89, 80, 69]) by rw [htext_beq, htext_beq, htext_beq]; rfl)
  go_enter Tryz.func30, Tryz.ntmps30
  go_wp2
  all_goals
    go_ret
    rw [HS.out]
    refine ⟨?_, rfl⟩
  all_goals
    first
      | rfl
      | (rename_i h1 h2; rw [beq_eq_false_iff_ne.2 h1, beq_iff_eq.2 h2]; rfl)
      | (rename_i h1; rw [beq_iff_eq.2 h1]; rfl)
      | (rename_i h1 h2; rw [h1, h2]; rfl)
end Go.Proofs
/- A map keyed by texts, of values of any kind, that the call has made: what it holds as a function of the key; no program. -/
namespace Go.AnyMap
open Go Go.Maps Go.WideMaps Go.RowKit

/-- A value tells itself. -/
def tokR (v : Value) : Option (DataW Value × List MemPlace) := some (.held v, [])
/-- Block b of W is a map of at most n entries that holds f. -/
def HasMap (P : Program) (k : TypeId) (W : World) (b n : Nat) (f : ByteArray → Option Value) : Prop :=
  ∃ D : DataW Value, W.ownsMap P k tokR b n D ∧ (∀ s : ByteArray, has D (.string s.data.toList) = (f s).isSome) ∧ ∀ (s : ByteArray) (z : Value), D.atKey (.string s.data.toList) (.held z) = .held ((f s).getD z)

theorem HasMap.made (W : World) (P : Program) (k : TypeId) : HasMap P k (W.alloc (.map #[] 0)) W.heap.size 0 fun _ => none :=
  ⟨.map [], World.ownsMap_made W P k tokR, fun _ => rfl, fun _ _ => rfl⟩

theorem HasMap.lt {P : Program} {k : TypeId} {W : World} {b n : Nat} {f : ByteArray → Option Value} (h : HasMap P k W b n f) : b < W.heap.size := by
  obtain ⟨D, hD, _⟩ := h
  exact hD.lt
theorem HasMap.mono {P : Program} {k : TypeId} {W : World} {b n n' : Nat} {f : ByteArray → Option Value} (h : HasMap P k W b n f) (hn : n ≤ n') : HasMap P k W b n' f := by
  obtain ⟨D, hD, h1, h2⟩ := h
  exact ⟨D, hD.mono hn, h1, h2⟩

/-- The block alone tells what the map holds. -/
theorem HasMap.same {P : Program} {k : TypeId} {W W' : World} {b n : Nat} {f : ByteArray → Option Value} (h : HasMap P k W b n f) (hb : W'.heap[b]? = W.heap[b]?) : HasMap P k W' b n f := by
  obtain ⟨D, ⟨es, clock, h0, h1⟩, h2⟩ := h
  exact ⟨D, ⟨es, clock, hb.trans h0, h1⟩, h2⟩
theorem HasMap.below {P : Program} {k : TypeId} {W W' : World} {b n B : Nat} {f : ByteArray → Option Value} (h : HasMap P k W b n f) (hB : b < B) (hb : Below B W W') : HasMap P k W' b n f := h.same (hb.block b hB)

theorem HasMap.look {P : Program} {k t e : TypeId} {W : World} {b n : Nat} {f : ByteArray → Option Value} (h : HasMap P k W b n f) (hk : P.underlying k = some .string) (ht : P.underlying t = some (.map k e)) {z : Value} (hz : (zeroValue e).run P W = .ok z W) (s : ByteArray) (hs : s.size ≤ maxLen) :
    (Instr.lookup t (.map (some b)) (.string s) false).run P W = .ok ((f s).getD z) W := by
  obtain ⟨D, hD, h1, h2⟩ := h
  obtain ⟨v, ps, hrun, hv⟩ := hD.lookup (string_keyed hk) ht hz (zd := .held z) (zp := []) rfl (keyOf_string_mk hk hs)
  rw [h2] at hv
  unfold tokR at hv
  simp only [Option.some.injEq, Prod.mk.injEq, DataW.held.injEq] at hv
  rw [hrun, hv.1]
theorem HasMap.look_ok {P : Program} {k t e : TypeId} {W : World} {b n : Nat} {f : ByteArray → Option Value} (h : HasMap P k W b n f) (hk : P.underlying k = some .string) (ht : P.underlying t = some (.map k e)) {z : Value} (hz : (zeroValue e).run P W = .ok z W) (s : ByteArray) (hs : s.size ≤ maxLen) :
    (Instr.lookup t (.map (some b)) (.string s) true).run P W = .ok (.tuple #[(f s).getD z, .bool (f s).isSome]) W := by
  obtain ⟨D, hD, h1, h2⟩ := h
  obtain ⟨v, ps, hrun, hv⟩ := hD.look_ok (string_keyed hk) ht hz (zd := .held z) (zp := []) rfl (keyOf_string_mk hk hs)
  rw [h2] at hv
  unfold tokR at hv
  simp only [Option.some.injEq, Prod.mk.injEq, DataW.held.injEq] at hv
  rw [hrun, hv.1, h1]

/-- What is stored. -/
def put (f : ByteArray → Option Value) (s : ByteArray) (v : Value) : ByteArray → Option Value := fun x => if x = s then some v else f x
theorem HasMap.store {P : Program} {k t e : TypeId} {W : World} {b n : Nat} {f : ByteArray → Option Value} (h : HasMap P k W b n f) (hk : P.underlying k = some .string) (ht : P.underlying t = some (.map k e)) (hn : n < maxLen) (s : ByteArray) (hs : s.size ≤ maxLen) (v : Value) :
    ∃ W', (Instr.mapUpdate t (.map (some b)) (.string s) v).run P W = .ok () W' ∧ HasMap P k W' b (n + 1) (put f s v) ∧ W.grownBy W' (some b) := by
  obtain ⟨D, hD, h1, h2⟩ := h
  have hkey := keyOf_string_mk hk hs
  obtain ⟨W', hrun, hD', hg⟩ := hD.update (string_keyed hk) ht hn hkey (val := v) (d := .held v) (ps := []) rfl
  refine ⟨W', hrun, ⟨_, hD', fun x => ?_, fun x z => ?_⟩, hg⟩
  · unfold put
    by_cases hx : x = s
    · subst hx
      rw [if_pos rfl, has_put_same hD.isMap (by trivial)]
      rfl
    · have hne : (Lit.string x.data.toList) ≠ Lit.string s.data.toList := fun e => hx (by
        have e1 : x.data.toList = s.data.toList := by simpa using e
        have e2 : x.data = s.data := Array.toList_inj.1 e1
        cases x; cases s; cases e2; rfl)
      rw [if_neg hx, has_put_other hne, h1]
  · unfold put
    by_cases hx : x = s
    · subst hx
      rw [if_pos rfl, atKey_put_same hD.isMap (by trivial)]
      rfl
    · have hne : (Lit.string x.data.toList) ≠ Lit.string s.data.toList := fun e => hx (by
        have e1 : x.data.toList = s.data.toList := by simpa using e
        have e2 : x.data = s.data := Array.toList_inj.1 e1
        cases x; cases s; cases e2; rfl)
      rw [if_neg hx, atKey_put_other hne, h2]
/-- 'm[k] = v' at the operation: (at_mapUpdate; refine wpList_mapUpdate_any _ rfl _ _ _ T rfl K E A.underlyingK A.underlyingT B n f rfl HAS (by decide) _ _ rfl rfl hs ?_; intro w1 hm1 hg1). -/
theorem wpList_mapUpdate_any {P : Program} (w : World) {ops : Array Oper} {rest : List Oper} {o : Oper} {a : Act} {Q : Exit → Act → World → Prop}
    (hg : o.guard = none) (m x v : Operand) (t : TypeId) (hop : o.op = Op.mapUpdate t m x v)
    (k e : TypeId) (hk : P.underlying k = some .string) (ht : P.underlying t = some (.map k e)) (b n : Nat) (f : ByteArray → Option Value)
    (hm : a.eval m = .map (some b)) (h : HasMap P k w b n f) (hn : n < maxLen) (s : ByteArray) (val : Value) (hx : a.eval x = .string s) (hv : a.eval v = val) (hs : s.size ≤ maxLen)
    (hK : ∀ w', HasMap P k w' b (n + 1) (put f s val) → w.grownBy w' (some b) → wpList P ops Q rest (a.put o.dst undef) w') :
    wpList P ops Q (o :: rest) a w := by
  refine wpList_plain hg fun K' hK' => ?_
  obtain ⟨w', hrun, r1, r2⟩ := h.store hk ht hn s hs val
  unfold Oper.wp
  simp [execOp, hop, hm, hx, hv, hrun, Result.andThen]
  exact hK' _ _ (hK w' r1 r2)
#print axioms wpList_mapUpdate_any
#print axioms HasMap.look
#print axioms HasMap.look_ok
#print axioms HasMap.store
end Go.AnyMap
/- A value of any type that is asserted to be a text or a number; the zero value of any; a map of texts to any that is made. -/
namespace Go.Proofs
open Go.RowKit Go.AnyMap
theorem any_zero (W : World) : (zeroValue 20).run Tryz.prog W = .ok .nilIface W := by kernel_rfl
theorem any_text (W : World) (v : Value) : (Instr.typeAssert (.iface 9 v) 20 9 true).run Tryz.prog W = .ok (.tuple #[v, .bool true]) W := by kernel_rfl
theorem any_int (W : World) (v : Value) : (Instr.typeAssert (.iface 3 v) 20 3 true).run Tryz.prog W = .ok (.tuple #[v, .bool true]) W := by kernel_rfl
theorem any_text_nil (W : World) : (Instr.typeAssert .nilIface 20 9 true).run Tryz.prog W = .ok (.tuple #[.string ⟨#[]⟩, .bool false]) W := by kernel_rfl
theorem any_int_nil (W : World) : (Instr.typeAssert .nilIface 20 3 true).run Tryz.prog W = .ok (.tuple #[.int .i64 0, .bool false]) W := by kernel_rfl
theorem any_text_int (W : World) (v : Value) : (Instr.typeAssert (.iface 3 v) 20 9 true).run Tryz.prog W = .ok (.tuple #[.string ⟨#[]⟩, .bool false]) W := by kernel_rfl
theorem any_int_text (W : World) (v : Value) : (Instr.typeAssert (.iface 9 v) 20 3 true).run Tryz.prog W = .ok (.tuple #[.int .i64 0, .bool false]) W := by kernel_rfl
theorem any_make (W : World) : (Instr.makeMap 39 none).run Tryz.prog W = .ok (.map (some W.heap.size)) (W.alloc (.map #[] 0)) := by kernel_rfl
/-- A value that is a text, if a, and else none at all. -/
def TextV (v : Value) (s : ByteArray) (a : Bool) : Prop := (v = .iface 9 (.string s) ∧ a = true) ∨ (v = .nilIface ∧ s = ⟨#[]⟩ ∧ a = false)
/-- A value that is a number, if a, and else none at all. -/
def IntV (v : Value) (n : Int) (a : Bool) : Prop := (v = .iface 3 (.int .i64 n) ∧ a = true) ∨ (v = .nilIface ∧ n = 0 ∧ a = false)
theorem TextV.run {v : Value} {s : ByteArray} {a : Bool} (h : TextV v s a) (W : World) : (Instr.typeAssert v 20 9 true).run Tryz.prog W = .ok (.tuple #[.string s, .bool a]) W := by
  rcases h with ⟨rfl, rfl⟩ | ⟨rfl, rfl, rfl⟩
  · exact any_text W _
  · exact any_text_nil W
theorem IntV.run {v : Value} {n : Int} {a : Bool} (h : IntV v n a) (W : World) : (Instr.typeAssert v 20 3 true).run Tryz.prog W = .ok (.tuple #[.int .i64 n, .bool a]) W := by
  rcases h with ⟨rfl, rfl⟩ | ⟨rfl, rfl, rfl⟩
  · exact any_int W _
  · exact any_int_nil W
#print axioms TextV.run
#print axioms IntV.run
end Go.Proofs
/- The map of what was taken of a head's rows, held against the document's own run of them; no walk. -/
namespace Go.Hdr
open Go Go.Proofs Go.AnyMap
/-- A field, as a value. -/
def hfld (i : Nat) (h : Hd) : Value := if i = 0 then .string h.name else if i = 1 then .int .i64 h.kind else if i = 2 then .int .i64 h.dim else if i = 3 then .int .i64 h.cap else if i = 4 then .int .i64 h.met else .int .i64 h.lay
def hany (i : Nat) (h : Hd) : Value := .iface (if i = 0 then 9 else 3) (hfld i h)
/-- The map holds just what was taken, and what was not taken is nought. -/
structure MapPr (f : ByteArray → Option Value) (p : Pr) : Prop where
  keys : ∀ K, (f K).isSome = (decide (0 ≤ hplaceE K) && p.c (hplaceE K).toNat)
  vals : ∀ i, i ≤ 5 → p.c i = true → f (hkey i) = some (hany i p.h)
  zero : ∀ i, i ≤ 5 → p.c i = false → hfld i p.h = hfld i hd0
theorem MapPr.start : MapPr (fun _ => none) pr0 := ⟨fun K => by simp [pr0], fun i _ h => by simp [pr0] at h, fun i _ _ => rfl⟩
theorem place_key {K : ByteArray} (h : 0 ≤ hplaceE K) : (hplaceE K).toNat ≤ 5 ∧ K = hkey (hplaceE K).toNat := by
  unfold hplaceE at h ⊢
  repeat' split at h
  all_goals first | (rename_i e; subst e; first | exact ⟨by decide, rfl⟩ | (refine ⟨?_, ?_⟩ <;> decide +kernel)) | omega | skip
  all_goals (rename_i e; subst e; refine ⟨?_, ?_⟩ <;> decide +kernel)
theorem put_other (h : Hd) (v : ByteArray) {i j : Nat} (hi : i ≤ 5) (hj : j ≤ 5) (hij : j ≠ i) : hfld j (putE h (i : Int) v).1 = hfld j h := by
  rcases (show i = 0 ∨ i = 1 ∨ i = 2 ∨ i = 3 ∨ i = 4 ∨ i = 5 by omega) with rfl | rfl | rfl | rfl | rfl | rfl <;>
  rcases (show j = 0 ∨ j = 1 ∨ j = 2 ∨ j = 3 ∨ j = 4 ∨ j = 5 by omega) with rfl | rfl | rfl | rfl | rfl | rfl <;>
  first | exact absurd rfl hij | rfl
/-- A row is taken. -/
theorem MapPr.step {f : ByteArray → Option Value} {p : Pr} (h : MapPr f p) {K v : ByteArray} (hK : 0 ≤ hplaceE K) :
    MapPr (put f K (hany (hplaceE K).toNat (putE p.h (hplaceE K) v).1)) ⟨(putE p.h (hplaceE K) v).1, fun i => p.c i || decide (i = (hplaceE K).toNat)⟩ := by
  obtain ⟨h5, hkk⟩ := place_key hK
  obtain ⟨i, hi⟩ : ∃ i, (hplaceE K).toNat = i := ⟨_, rfl⟩
  have hpi : hplaceE K = (i : Int) := by omega
  rw [hi] at h5 hkk
  rw [hi, hpi]
  refine ⟨fun L => ?_, fun j hj hc => ?_, fun j hj hc => ?_⟩
  · unfold put
    by_cases hL : L = K
    · rw [if_pos hL, hL, hpi]
      simp
    · rw [if_neg hL, h.keys L]
      by_cases h0 : 0 ≤ hplaceE L
      · have hne : (hplaceE L).toNat ≠ i := fun e => hL (by rw [(place_key h0).2, e, ← hkk])
        simp [h0, hne]
      · simp [h0]
  · unfold put
    by_cases hji : j = i
    · rw [hji, if_pos hkk.symm]
    · have hne : hkey j ≠ K := fun e => hji (by
        have := (hkey_is j hj).2.2.2
        rw [e, hpi] at this
        omega)
      have hc' : p.c j = true := by simpa [hji] using hc
      rw [if_neg hne, h.vals j hj hc']
      unfold hany
      rw [put_other p.h v h5 hj hji]
  · have hji : j ≠ i := fun e => by simp [e] at hc
    have hc' : p.c j = false := by
      have hcc : (p.c j || decide (j = i)) = false := hc
      rw [Bool.or_eq_false_iff] at hcc
      exact hcc.1
    show hfld j (putE p.h (i : Int) v).1 = _
    rw [put_other p.h v h5 hj hji, h.zero j hj hc']
theorem MapPr.none {f : ByteArray → Option Value} {p : Pr} (h : MapPr f p) {i : Nat} (hi : i ≤ 5) (hc : p.c i = false) : f (hkey i) = .none := by
  have h1 := h.keys (hkey i)
  rw [(hkey_is i hi).2.2.2, show ((i : Int)).toNat = i from rfl, hc, Bool.and_false] at h1
  cases hf : f (hkey i) with
  | none => rfl
  | some x => rw [hf] at h1; cases h1
theorem MapPr.text {f : ByteArray → Option Value} {p : Pr} (h : MapPr f p) : TextV ((f hkName).getD .nilIface) p.h.name (p.c 0) := by
  cases hc : p.c 0 with
  | true => exact .inl ⟨by rw [show hkName = hkey 0 from rfl, h.vals 0 (by omega) hc]; rfl, rfl⟩
  | false => exact .inr ⟨by rw [show hkName = hkey 0 from rfl, h.none (by omega) hc]; rfl, by have := h.zero 0 (by omega) hc; simpa [hfld, hd0] using this, rfl⟩
theorem MapPr.int {f : ByteArray → Option Value} {p : Pr} (h : MapPr f p) {i : Nat} {x : Int} (h1 : 1 ≤ i) (hi : i ≤ 5) (hx : hfld i p.h = .int .i64 x) (h0 : hfld i hd0 = .int .i64 0) : IntV ((f (hkey i)).getD .nilIface) x (p.c i) := by
  cases hc : p.c i with
  | true =>
    refine .inl ⟨?_, rfl⟩
    rw [h.vals i hi hc]
    unfold hany
    rw [hx, if_neg (by omega)]
    rfl
  | false =>
    refine .inr ⟨by rw [h.none hi hc]; rfl, ?_, rfl⟩
    have := h.zero i hi hc
    rw [hx, h0] at this
    simpa using this
theorem MapPr.kind {f : ByteArray → Option Value} {p : Pr} (h : MapPr f p) : IntV ((f hkType).getD .nilIface) p.h.kind (p.c 1) := h.int (i := 1) (by omega) (by omega) rfl rfl
theorem MapPr.dim {f : ByteArray → Option Value} {p : Pr} (h : MapPr f p) : IntV ((f hkDim).getD .nilIface) p.h.dim (p.c 2) := h.int (i := 2) (by omega) (by omega) rfl rfl
theorem MapPr.cap {f : ByteArray → Option Value} {p : Pr} (h : MapPr f p) : IntV ((f hkCap).getD .nilIface) p.h.cap (p.c 3) := h.int (i := 3) (by omega) (by omega) rfl rfl
theorem MapPr.met {f : ByteArray → Option Value} {p : Pr} (h : MapPr f p) : IntV ((f hkMet).getD .nilIface) p.h.met (p.c 4) := h.int (i := 4) (by omega) (by omega) rfl rfl
theorem MapPr.lay {f : ByteArray → Option Value} {p : Pr} (h : MapPr f p) : IntV ((f hkLay).getD .nilIface) p.h.lay (p.c 5) := h.int (i := 5) (by omega) (by omega) rfl rfl
#print axioms MapPr.step
#print axioms MapPr.int
end Go.Hdr
/- The landed head's reading of values: number, kindOf, layoutOf, read. Conditions: the tables of keywords hold what the card lays; texts are short. -/
namespace Go.Hdr
open Go.Fx
/-- What the number of a text is, and whether it fits. -/
def numP (s : ByteArray) (most : Int) : Int × Bool := ((intR s.data.toList).1, decide ((intR s.data.toList).2 = 0 ∧ 1 ≤ (intR s.data.toList).1 ∧ (intR s.data.toList).1 ≤ most))
theorem numP_fits (s : ByteArray) {most : Int} : (numP s most).2 = decide (0 < numE s most) := by
  unfold numP numE
  split
  · rename_i h; rw [decide_eq_true h, decide_eq_true (by omega)]
  · rename_i h; rw [decide_eq_false h]; rfl
theorem numP_num (s : ByteArray) {most : Int} (h : (numP s most).2 = true) : (numP s most).1 = numE s most := by
  unfold numP at h ⊢
  unfold numE
  rw [if_pos (of_decide_eq_true h)]
def kindP (t : ByteArray) : Int × Bool := if t = hkTsp then (1, true) else if t = hkCvrp then (2, true) else (0, false)
end Go.Hdr
namespace Go.Proofs
open Go.RowKit Go.Shelf Go.Hdr Go.Fx Go.Wds Go.Metric Go.Layout
attribute [local go_sem] Oper.semAt_some
set_option linter.unusedVariables false
set_option maxRecDepth 100000 in
theorem Tryz.hnumber_calls (s : ByteArray) (most : Int) (w : World) (hs : s.size ≤ 2000000) :
    Calls Tryz.prog 54 #[.string s, .int .i64 most] w fun e w' => e = .returned (.tuple #[.int .i64 (numP s most).1, .bool (numP s most).2]) ∧ Below w.heap.size w w' := by
  have RI := fun w => Tryz.Int_any s.data.toList (by simpa using (by omega : s.size ≤ 9223372036854775807)) w
  rw [(int_same _).1, (int_same _).2] at RI
  have RW := fun n w => Tryz.within_calls n most w
  have HN := Lib.hid (show numP s most = ((intR s.data.toList).1, decide ((intR s.data.toList).2 = 0) && decide (1 ≤ (intR s.data.toList).1 ∧ (intR s.data.toList).1 ≤ most)) by unfold numP; rw [Bool.decide_and])
  have es : (⟨s.data.toList.toArray⟩ : ByteArray) = s := by cases s; simp
  rw [es] at RI
  clear es
  generalize intR s.data.toList = p at *
  obtain ⟨n, c⟩ := p
  dsimp only at RI HN
  have RW := RW n
  generalize decide (1 ≤ n ∧ n ≤ most) = q at *
  by_cases h0 : c = 0
  · subst h0
    go_enter Tryz.func54, Tryz.ntmps54
    go_wp2_with (first | (go_at_call 72; (with_reducible refine (RI _).mono ?_); rintro e w1 ⟨rfl, hw1⟩) | (go_at_call 24; (with_reducible refine (RW _).mono ?_); rintro e w2 ⟨rfl, hw2⟩; subst hw2))
    refine bodyPost_ret (v := .tuple #[.int .i64 n, .bool q]) (by simp [results, Tryz.results54, go_sem]) rfl ⟨?_, hw1⟩
    rw [HN.out]; rfl
  · have d0 : (c == 0) = false := by rw [beq_eq_false_iff_ne]; exact h0
    have HV := Lib.hid (show numP s most = (n, false) by rw [HN.out, decide_eq_false h0]; rfl)
    clear HN
    go_enter Tryz.func54, Tryz.ntmps54
    go_wp2_with (first | (go_at_call 72; (with_reducible refine (RI _).mono ?_); rintro e w1 ⟨rfl, hw1⟩) | (go_at_call 24; (with_reducible refine (RW _).mono ?_); rintro e w2 ⟨rfl, hw2⟩; subst hw2))
    refine bodyPost_ret (v := .tuple #[.int .i64 n, .bool false]) (by simp [results, Tryz.results54, go_sem]) rfl ⟨?_, hw1⟩
    rw [HV.out]
set_option maxRecDepth 100000 in
theorem Tryz.layoutOf_calls (s : ByteArray) (w : World) (hT : LayTab w) :
    Calls Tryz.prog 56 #[.string s] w fun e w' => e = .returned (.tuple #[.int .i64 (lofR s), .bool (decide (lofR s ≠ 0))]) ∧ w' = w := by
  have RL := Tryz.LOf_calls s w hT
  generalize lofR s = q at *
  go_enter Tryz.func56, Tryz.ntmps56
  go_wp2_with (go_at_call 73; (with_reducible refine RL.mono ?_); rintro e w1 ⟨rfl, hw1⟩; subst hw1)
  refine bodyPost_ret (v := .tuple #[.int .i64 q, .bool (decide (q ≠ 0))]) (by simp [results, Tryz.results56, go_sem, bne, decide_not]; rfl) rfl ⟨rfl, rfl⟩
def kfrom (s : ByteArray) (j : Nat) : Int × Bool := if j = 1 then kindP s else if j = 2 then (if s = hkCvrp then (2, true) else (0, false)) else (0, false)
theorem kind_ret {s : ByteArray} {a : Int} {b : Bool} (h : kindP s = (a, b)) : Ending.returned (.tuple #[.int .i64 a, .bool b]) = .returned (.tuple #[.int .i64 (kindP s).1, .bool (kindP s).2]) := by rw [h]
set_option maxRecDepth 100000 in
theorem Tryz.kindOf_calls (s : ByteArray) (w : World) :
    Calls Tryz.prog 53 #[.string s] w fun e w' => e = .returned (.tuple #[.int .i64 (kindP s).1, .bool (kindP s).2]) ∧ w' = w := by
  have RK1 : ∀ w, Calls Tryz.prog 19 #[.int .i64 1] w fun e w' => e = .returned (.string ⟨#[84, 83, 80]⟩) ∧ w' = w := fun w => Tryz.kwK_calls 1 w
  have RK2 : ∀ w, Calls Tryz.prog 19 #[.int .i64 2] w fun e w' => e = .returned (.string ⟨#[67, 86, 82, 80]⟩) ∧ w' = w := fun w => Tryz.kwK_calls 2 w
  go_enter Tryz.func53, Tryz.ntmps53
  go_wp2
  go_loop [4] (fun i => ∃ j : Nat, 1 ≤ j ∧ j ≤ 3 ∧ i = .int .i64 (j : Int) ∧ Hid (kindP s = kfrom s j)) (fun i => 3 - (intOf i).toNat)
  case atStart => exact ⟨1, by omega, by omega, rfl, Lib.hid rfl⟩
  case round =>
    obtain ⟨j, hj1, hj, rfl, hH⟩ := hrel
    rcases (show j = 1 ∨ j = 2 ∨ j = 3 by omega) with rfl | rfl | rfl
    · by_cases h1 : s = hkTsp
      · have HV := Lib.hid (show kindP s = (1, true) by unfold kindP; rw [if_pos h1])
        subst h1
        unfold hkTsp at *
        clear hH
        go_wp2_with (go_at_call 19; (with_reducible refine (RK1 _).mono ?_); rintro e w1 ⟨rfl, hw1⟩; subst hw1)
        refine bodyPost_ret (v := .tuple #[.int .i64 1, .bool true]) (by simp [results, Tryz.results53, go_sem]) rfl ⟨kind_ret HV.out, rfl⟩
      · have HV := Lib.hid (show kindP s = kfrom s 2 by unfold kindP kfrom; rw [if_neg h1]; rfl)
        have hne := ltext_beq (l := [84, 83, 80]) (s := s) (fun e => h1 e.symm)
        clear hH h1
        go_wp2_with (go_at_call 19; (with_reducible refine (RK1 _).mono ?_); rintro e w1 ⟨rfl, hw1⟩; subst hw1)
        go_round
        case rel => exact ⟨2, by omega, by omega, by go_num, HV⟩
        case measure => simp [intOf]
    · by_cases h1 : s = hkCvrp
      · have HV := Lib.hid (show kindP s = (2, true) by rw [hH.out]; unfold kfrom; rw [if_neg (by decide), if_pos rfl, if_pos h1])
        subst h1
        unfold hkCvrp at *
        clear hH
        go_wp2_with (go_at_call 19; (with_reducible refine (RK2 _).mono ?_); rintro e w1 ⟨rfl, hw1⟩; subst hw1)
        refine bodyPost_ret (v := .tuple #[.int .i64 2, .bool true]) (by simp [results, Tryz.results53, go_sem]) rfl ⟨kind_ret HV.out, rfl⟩
      · have HV := Lib.hid (show kindP s = kfrom s 3 by rw [hH.out]; unfold kfrom; rw [if_neg (by decide), if_pos rfl, if_neg h1, if_neg (by decide), if_neg (by decide)])
        have hne := ltext_beq (l := [67, 86, 82, 80]) (s := s) (fun e => h1 e.symm)
        clear hH h1
        go_wp2_with (go_at_call 19; (with_reducible refine (RK2 _).mono ?_); rintro e w1 ⟨rfl, hw1⟩; subst hw1)
        go_round
        case rel => exact ⟨3, by omega, by omega, by go_num, HV⟩
        case measure => simp [intOf]
    · have HV := Lib.hid (show kindP s = (0, false) by rw [hH.out]; rfl)
      clear hH
      go_wp2
      refine bodyPost_ret (v := .tuple #[.int .i64 0, .bool false]) (by simp [results, Tryz.results53, go_sem]) rfl ⟨kind_ret HV.out, rfl⟩
/-- What a value says of a key, and whether it says it. -/
def readE (K v : ByteArray) : Value × Int := if hplaceE K < 0 then (.nilIface, 140) else if (putE hd0 (hplaceE K) v).2 = false then (.nilIface, 141) else (hany (hplaceE K).toNat (putE hd0 (hplaceE K) v).1, 0)
theorem read_none {K v : ByteArray} (h : hplaceE K < 0) : readE K v = (.nilIface, 140) := by unfold readE; rw [if_pos h]
theorem read_bad {K v : ByteArray} {i : Nat} (h : hplaceE K = i) (hb : (putE hd0 i v).2 = false) : readE K v = (.nilIface, 141) := by unfold readE; rw [h, if_neg (by omega), if_pos hb]
theorem read_good {K v : ByteArray} {i : Nat} (h : hplaceE K = i) (hb : (putE hd0 i v).2 = true) : readE K v = (hany i (putE hd0 i v).1, 0) := by unfold readE; rw [h, if_neg (by omega), if_neg (by rw [hb]; decide)]; rfl
theorem lofFrom_pos (s : ByteArray) : ∀ (m j : Nat), 0 ≤ lofFrom s j m := by
  intro m
  induction m with
  | zero => intro j; simp [lofFrom]
  | succ m ih => intro j; simp only [lofFrom]; split <;> first | omega | exact ih _
theorem lofR_pos (s : ByteArray) : 0 ≤ lofR s := lofFrom_pos s 7 1
theorem kindP_put (v : ByteArray) : (putE hd0 1 v).2 = (kindP v).2 ∧ ((kindP v).2 = true → (putE hd0 1 v).1.kind = (kindP v).1) := by
  have e : putE hd0 1 v = (⟨⟨#[]⟩, if v = hkCvrp then 2 else if v = hkTsp then 1 else 0, 0, 0, 0, 0⟩, decide ((0 : Int) < if v = hkCvrp then 2 else if v = hkTsp then 1 else 0)) := rfl
  rw [e]
  unfold kindP
  by_cases h1 : v = hkTsp
  · subst h1
    refine ⟨by decide +kernel, fun _ => by decide +kernel⟩
  · by_cases h2 : v = hkCvrp
    · subst h2
      refine ⟨by decide +kernel, fun _ => by decide +kernel⟩
    · rw [if_neg h1, if_neg h2, if_neg h2, if_neg h1]
      exact ⟨rfl, fun h => by cases h⟩
set_option maxRecDepth 100000 in
theorem Tryz.hread0 (v : ByteArray) (w : World) (hs : v.size ≤ 2000000) :
    Calls Tryz.prog 31 #[.string hkName, .string v] w fun e w' => e = .returned (.tuple #[(readE hkName v).1, .int .i64 (readE hkName v).2]) ∧ Below w.heap.size w w' := by
  have RN := Tryz.Name_calls v w hs
  have HB : (putE hd0 (0 : Nat) v).2 = nameL v.data.toList := rfl
  cases hb : nameL v.data.toList with
  | false =>
    rw [hb] at RN HB
    have HV := Lib.hid (read_bad (K := hkName) (v := v) (i := 0) (by decide +kernel) HB)
    clear hb HB
    unfold hkName at *
    go_enter Tryz.func31, Tryz.ntmps31
    go_wp2_with (go_at_call 23; (with_reducible refine RN.mono ?_); rintro e w1 ⟨rfl, hw1⟩)
    refine bodyPost_ret (v := .tuple #[.nilIface, .int .i64 141]) (by simp [results, Tryz.results31, go_sem]) rfl ⟨?_, hw1⟩
    rw [HV.out]
  | true =>
    rw [hb] at RN HB
    have HV := Lib.hid (show readE hkName v = (.iface 9 (.string v), 0) by rw [read_good (K := hkName) (v := v) (i := 0) (by decide +kernel) HB]; exact Prod.ext (rfl) rfl)
    clear hb HB
    unfold hkName at *
    go_enter Tryz.func31, Tryz.ntmps31
    go_wp2_with (go_at_call 23; (with_reducible refine RN.mono ?_); rintro e w1 ⟨rfl, hw1⟩)
    refine bodyPost_ret (v := .tuple #[.iface 9 (.string v), .int .i64 0]) (by simp [results, Tryz.results31, go_sem]) rfl ⟨?_, hw1⟩
    rw [HV.out]
set_option maxRecDepth 100000 in
theorem Tryz.hread1 (v : ByteArray) (w : World) (hs : v.size ≤ 2000000) :
    Calls Tryz.prog 31 #[.string hkType, .string v] w fun e w' => e = .returned (.tuple #[(readE hkType v).1, .int .i64 (readE hkType v).2]) ∧ Below w.heap.size w w' := by
  have RN := Tryz.kindOf_calls v w
  have HB : (putE hd0 (1 : Nat) v).2 = (kindP v).2 := (kindP_put v).1
  cases hb : (kindP v).2 with
  | false =>
    rw [hb] at RN HB
    have HV := Lib.hid (read_bad (K := hkType) (v := v) (i := 1) (by decide +kernel) HB)
    clear hb HB
    generalize (kindP v).1 = q at *
    unfold hkType at *
    go_enter Tryz.func31, Tryz.ntmps31
    go_wp2_with (go_at_call 53; (with_reducible refine RN.mono ?_); rintro e w1 ⟨rfl, hw1⟩; subst hw1)
    refine bodyPost_ret (v := .tuple #[.nilIface, .int .i64 141]) (by simp [results, Tryz.results31, go_sem]) rfl ⟨?_, Below.refl _ _⟩
    rw [HV.out]
  | true =>
    rw [hb] at RN HB
    have HV := Lib.hid (show readE hkType v = (.iface 3 (.int .i64 ((kindP v).1)), 0) by rw [read_good (K := hkType) (v := v) (i := 1) (by decide +kernel) HB]; exact Prod.ext (by show Value.iface 3 (.int .i64 (putE hd0 1 v).1.kind) = _; rw [(kindP_put v).2 hb]) rfl)
    clear hb HB
    generalize (kindP v).1 = q at *
    unfold hkType at *
    go_enter Tryz.func31, Tryz.ntmps31
    go_wp2_with (go_at_call 53; (with_reducible refine RN.mono ?_); rintro e w1 ⟨rfl, hw1⟩; subst hw1)
    refine bodyPost_ret (v := .tuple #[.iface 3 (.int .i64 q), .int .i64 0]) (by simp [results, Tryz.results31, go_sem]) rfl ⟨?_, Below.refl _ _⟩
    rw [HV.out]
set_option maxRecDepth 100000 in
theorem Tryz.hread2 (v : ByteArray) (w : World) (hs : v.size ≤ 2000000) :
    Calls Tryz.prog 31 #[.string hkDim, .string v] w fun e w' => e = .returned (.tuple #[(readE hkDim v).1, .int .i64 (readE hkDim v).2]) ∧ Below w.heap.size w w' := by
  have RN := Tryz.hnumber_calls v 400 w hs
  have HB : (putE hd0 (2 : Nat) v).2 = (numP v 400).2 := (numP_fits v).symm
  cases hb : (numP v 400).2 with
  | false =>
    rw [hb] at RN HB
    have HV := Lib.hid (read_bad (K := hkDim) (v := v) (i := 2) (by decide +kernel) HB)
    clear hb HB
    generalize (numP v 400).1 = q at *
    unfold hkDim at *
    go_enter Tryz.func31, Tryz.ntmps31
    go_wp2_with (go_at_call 54; (with_reducible refine RN.mono ?_); rintro e w1 ⟨rfl, hw1⟩)
    refine bodyPost_ret (v := .tuple #[.nilIface, .int .i64 141]) (by simp [results, Tryz.results31, go_sem]) rfl ⟨?_, hw1⟩
    rw [HV.out]
  | true =>
    rw [hb] at RN HB
    have HV := Lib.hid (show readE hkDim v = (.iface 3 (.int .i64 ((numP v 400).1)), 0) by rw [read_good (K := hkDim) (v := v) (i := 2) (by decide +kernel) HB]; exact Prod.ext (by show Value.iface 3 (.int .i64 _) = _; rw [numP_num v hb]; rfl) rfl)
    clear hb HB
    generalize (numP v 400).1 = q at *
    unfold hkDim at *
    go_enter Tryz.func31, Tryz.ntmps31
    go_wp2_with (go_at_call 54; (with_reducible refine RN.mono ?_); rintro e w1 ⟨rfl, hw1⟩)
    refine bodyPost_ret (v := .tuple #[.iface 3 (.int .i64 q), .int .i64 0]) (by simp [results, Tryz.results31, go_sem]) rfl ⟨?_, hw1⟩
    rw [HV.out]
set_option maxRecDepth 100000 in
theorem Tryz.hread3 (v : ByteArray) (w : World) (hs : v.size ≤ 2000000) :
    Calls Tryz.prog 31 #[.string hkCap, .string v] w fun e w' => e = .returned (.tuple #[(readE hkCap v).1, .int .i64 (readE hkCap v).2]) ∧ Below w.heap.size w w' := by
  have RN := Tryz.hnumber_calls v 100000000 w hs
  have HB : (putE hd0 (3 : Nat) v).2 = (numP v 100000000).2 := (numP_fits v).symm
  cases hb : (numP v 100000000).2 with
  | false =>
    rw [hb] at RN HB
    have HV := Lib.hid (read_bad (K := hkCap) (v := v) (i := 3) (by decide +kernel) HB)
    clear hb HB
    generalize (numP v 100000000).1 = q at *
    unfold hkCap at *
    go_enter Tryz.func31, Tryz.ntmps31
    go_wp2_with (go_at_call 54; (with_reducible refine RN.mono ?_); rintro e w1 ⟨rfl, hw1⟩)
    refine bodyPost_ret (v := .tuple #[.nilIface, .int .i64 141]) (by simp [results, Tryz.results31, go_sem]) rfl ⟨?_, hw1⟩
    rw [HV.out]
  | true =>
    rw [hb] at RN HB
    have HV := Lib.hid (show readE hkCap v = (.iface 3 (.int .i64 ((numP v 100000000).1)), 0) by rw [read_good (K := hkCap) (v := v) (i := 3) (by decide +kernel) HB]; exact Prod.ext (by show Value.iface 3 (.int .i64 _) = _; rw [numP_num v hb]; rfl) rfl)
    clear hb HB
    generalize (numP v 100000000).1 = q at *
    unfold hkCap at *
    go_enter Tryz.func31, Tryz.ntmps31
    go_wp2_with (go_at_call 54; (with_reducible refine RN.mono ?_); rintro e w1 ⟨rfl, hw1⟩)
    refine bodyPost_ret (v := .tuple #[.iface 3 (.int .i64 q), .int .i64 0]) (by simp [results, Tryz.results31, go_sem]) rfl ⟨?_, hw1⟩
    rw [HV.out]
set_option maxRecDepth 100000 in
theorem Tryz.hread4 (v : ByteArray) (w : World) (hs : v.size ≤ 2000000) (hT : KeyTab w) :
    Calls Tryz.prog 31 #[.string hkMet, .string v] w fun e w' => e = .returned (.tuple #[(readE hkMet v).1, .int .i64 (readE hkMet v).2]) ∧ Below w.heap.size w w' := by
  have RN := Tryz.Of_calls v w hT
  have HB : (putE hd0 (4 : Nat) v).2 = (ofR v).2 := rfl
  cases hb : (ofR v).2 with
  | false =>
    rw [hb] at RN HB
    have HV := Lib.hid (read_bad (K := hkMet) (v := v) (i := 4) (by decide +kernel) HB)
    clear hb HB
    generalize (ofR v).1 = q at *
    unfold hkMet at *
    go_enter Tryz.func31, Tryz.ntmps31
    go_wp2_with (go_at_call 55; (with_reducible refine RN.mono ?_); rintro e w1 ⟨rfl, hw1⟩; subst hw1)
    refine bodyPost_ret (v := .tuple #[.nilIface, .int .i64 141]) (by simp [results, Tryz.results31, go_sem]) rfl ⟨?_, Below.refl _ _⟩
    rw [HV.out]
  | true =>
    rw [hb] at RN HB
    have HV := Lib.hid (show readE hkMet v = (.iface 3 (.int .i64 ((ofR v).1)), 0) by rw [read_good (K := hkMet) (v := v) (i := 4) (by decide +kernel) HB]; exact Prod.ext (rfl) rfl)
    clear hb HB
    generalize (ofR v).1 = q at *
    unfold hkMet at *
    go_enter Tryz.func31, Tryz.ntmps31
    go_wp2_with (go_at_call 55; (with_reducible refine RN.mono ?_); rintro e w1 ⟨rfl, hw1⟩; subst hw1)
    refine bodyPost_ret (v := .tuple #[.iface 3 (.int .i64 q), .int .i64 0]) (by simp [results, Tryz.results31, go_sem]) rfl ⟨?_, Below.refl _ _⟩
    rw [HV.out]
set_option maxRecDepth 100000 in
theorem Tryz.hread5 (v : ByteArray) (w : World) (hs : v.size ≤ 2000000) (hT : LayTab w) :
    Calls Tryz.prog 31 #[.string hkLay, .string v] w fun e w' => e = .returned (.tuple #[(readE hkLay v).1, .int .i64 (readE hkLay v).2]) ∧ Below w.heap.size w w' := by
  have RN := Tryz.layoutOf_calls v w hT
  have HB : (putE hd0 (5 : Nat) v).2 = decide (lofR v ≠ 0) := (show decide (0 < lofR v) = decide (lofR v ≠ 0) by have := lofR_pos v; rw [Bool.eq_iff_iff, decide_eq_true_iff, decide_eq_true_iff]; omega)
  cases hb : decide (lofR v ≠ 0) with
  | false =>
    rw [hb] at RN HB
    have HV := Lib.hid (read_bad (K := hkLay) (v := v) (i := 5) (by decide +kernel) HB)
    clear hb HB
    generalize lofR v = q at *
    unfold hkLay at *
    go_enter Tryz.func31, Tryz.ntmps31
    go_wp2_with (go_at_call 56; (with_reducible refine RN.mono ?_); rintro e w1 ⟨rfl, hw1⟩; subst hw1)
    refine bodyPost_ret (v := .tuple #[.nilIface, .int .i64 141]) (by simp [results, Tryz.results31, go_sem]) rfl ⟨?_, Below.refl _ _⟩
    rw [HV.out]
  | true =>
    rw [hb] at RN HB
    have HV := Lib.hid (show readE hkLay v = (.iface 3 (.int .i64 (lofR v)), 0) by rw [read_good (K := hkLay) (v := v) (i := 5) (by decide +kernel) HB]; exact Prod.ext (rfl) rfl)
    clear hb HB
    generalize lofR v = q at *
    unfold hkLay at *
    go_enter Tryz.func31, Tryz.ntmps31
    go_wp2_with (go_at_call 56; (with_reducible refine RN.mono ?_); rintro e w1 ⟨rfl, hw1⟩; subst hw1)
    refine bodyPost_ret (v := .tuple #[.iface 3 (.int .i64 q), .int .i64 0]) (by simp [results, Tryz.results31, go_sem]) rfl ⟨?_, Below.refl _ _⟩
    rw [HV.out]
set_option maxRecDepth 100000 in
theorem Tryz.hread_none (K v : ByteArray) (w : World) (hp : hplaceE K < 0) :
    Calls Tryz.prog 31 #[.string K, .string v] w fun e w' => e = .returned (.tuple #[(readE K v).1, .int .i64 (readE K v).2]) ∧ Below w.heap.size w w' := by
  have HV := Lib.hid (read_none (v := v) hp)
  have n0 := (htext_beq K [78, 65, 77, 69]).trans (decide_eq_false fun e => by rw [e] at hp; revert hp; decide +kernel)
  have n1 := (htext_beq K [84, 89, 80, 69]).trans (decide_eq_false fun e => by rw [e] at hp; revert hp; decide +kernel)
  have n2 := (htext_beq K [68, 73, 77, 69, 78, 83, 73, 79, 78]).trans (decide_eq_false fun e => by rw [e] at hp; revert hp; decide +kernel)
  have n3 := (htext_beq K [67, 65, 80, 65, 67, 73, 84, 89]).trans (decide_eq_false fun e => by rw [e] at hp; revert hp; decide +kernel)
  have n4 := (htext_beq K [69, 68, 71, 69, 95, 87, 69, 73, 71, 72, 84, 95, 84, 89, 80, 69]).trans (decide_eq_false fun e => by rw [e] at hp; revert hp; decide +kernel)
  have n5 := (htext_beq K [69, 68, 71, 69, 95, 87, 69, 73, 71, 72, 84, 95, 70, 79, 82, 77, 65, 84]).trans (decide_eq_false fun e => by rw [e] at hp; revert hp; decide +kernel)
  clear hp
  go_enter Tryz.func31, Tryz.ntmps31
  go_wp2
  refine bodyPost_ret (v := .tuple #[.nilIface, .int .i64 140]) (by simp [results, Tryz.results31, go_sem]) rfl ⟨?_, Below.refl _ _⟩
  rw [HV.out]
/-- The contract of read. -/
theorem Tryz.hread_calls (K v : ByteArray) (w : World) (hs : v.size ≤ 2000000) (hk : KeyTab w) (hl : LayTab w) :
    Calls Tryz.prog 31 #[.string K, .string v] w fun e w' => e = .returned (.tuple #[(readE K v).1, .int .i64 (readE K v).2]) ∧ Below w.heap.size w w' := by
  by_cases hp : hplaceE K < 0
  · exact Tryz.hread_none K v w hp
  · obtain ⟨h5, he⟩ := place_key (K := K) (by omega)
    rcases (show (hplaceE K).toNat = 0 ∨ (hplaceE K).toNat = 1 ∨ (hplaceE K).toNat = 2 ∨ (hplaceE K).toNat = 3 ∨ (hplaceE K).toNat = 4 ∨ (hplaceE K).toNat = 5 by omega) with h | h | h | h | h | h
    all_goals rw [h] at he; subst he
    · exact Tryz.hread0 v w hs
    · exact Tryz.hread1 v w hs
    · exact Tryz.hread2 v w hs
    · exact Tryz.hread3 v w hs
    · exact Tryz.hread4 v w hs hk
    · exact Tryz.hread5 v w hs hl
#print axioms Tryz.hread_calls
end Go.Proofs
