/- The law FixedPrints, as a contract. Conditions: the integers that an int holds; the table of powers of ten holds what the card lays. -/
import Derived.Test.YtfhjndldiggchaaDoorRPrintNeg
import Derived.Test.YtfhjndldiggchaaDoorLawOrderAll
namespace Go.Proofs
open Go.RowKit Go.Fx
attribute [local go_sem] Oper.semAt_some
attribute [local go_sem ↓] Go.wp_at_zero Go.wp_at_succ

/-- The two numbers' boxes, and what was there. -/
def Two (w : World) (a0 a1 b0 b1 : Value) (W : World) : Prop :=
  Pair W w.heap.size 27 a0 a1 ∧ Pair W (w.heap.size + 1) 27 b0 b1 ∧ Below w.heap.size w W
/-- What the walk reads of them. -/
def Read2 (w : World) (a0 a1 b0 b1 : Value) (W : World) : Prop :=
  W.cell? ⟨w.heap.size, 0, none⟩ = some a0 ∧ W.cell? ⟨w.heap.size, 1, none⟩ = some a1 ∧ W.cell? ⟨w.heap.size + 1, 0, none⟩ = some b0 ∧ W.cell? ⟨w.heap.size + 1, 1, none⟩ = some b1
theorem Two.read {w : World} {a0 a1 b0 b1 : Value} {W : World} (h : Two w a0 a1 b0 b1 W) : Read2 w a0 a1 b0 b1 W := ⟨h.1.c0, h.1.c1, h.2.1.c0, h.2.1.c1⟩
theorem Two.next {w : World} {a0 a1 b0 b1 : Value} {W W' : World} (h : Two w a0 a1 b0 b1 W) (hb : Below W.heap.size W W') : Two w a0 a1 b0 b1 W' :=
  ⟨h.1.next hb, h.2.1.next hb, Below.next h.2.2 (Nat.le_refl _) hb⟩
theorem Two.drew {w : World} {a0 a1 b0 b1 : Value} {W : World} (h : Two w a0 a1 b0 b1 W) : Two w a0 a1 b0 b1 W.drew := ⟨h.1, h.2.1, h.2.2.drew⟩
theorem Two.new (w : World) (a0 a1 b0 b1 : Value) : Two w a0 a1 b0 b1 ((w.alloc (.cells #[a0, a1] 27)).alloc (.cells #[b0, b1] 27)) := by
  have h0 := Pair.new w 27 a0 a1
  have h1 := Pair.new (w.alloc (.cells #[a0, a1] 27)) 27 b0 b1
  have s1 : (w.alloc (.cells #[a0, a1] 27)).heap.size = w.heap.size + 1 := by simp
  rw [s1] at h1
  exact ⟨h0.next (Below.alloc (Below.refl _ _) (Nat.le_refl _) _), h1, ((Below.refl _ w).alloc (Nat.le_refl _) _).alloc (by simp) _⟩
theorem Two.alloc {w : World} {a0 a1 b0 b1 : Value} {W : World} (h : Two w a0 a1 b0 b1 W) (o : Obj) : Two w a0 a1 b0 b1 (W.alloc o) := h.next (Below.alloc (Below.refl _ _) (Nat.le_refl _) _)

/-- The two numbers' boxes and the third one's. -/
def Held (w : World) (b : Nat) (a0 a1 b0 b1 : Value) (W : World) : Prop := Two w a0 a1 b0 b1 W ∧ Pair W b 30 a0 a1
/-- What the region holds. -/
def HeldS (w : World) (b : Nat) (a0 a1 b0 b1 : Value) (W : World) : Prop :=
  W.cell? ⟨w.heap.size, 0, none⟩ = some a0 ∧ W.cell? ⟨w.heap.size, 1, none⟩ = some a1 ∧ W.cell? ⟨w.heap.size + 1, 0, none⟩ = some b0 ∧ W.cell? ⟨w.heap.size + 1, 1, none⟩ = some b1 ∧ W.cell? ⟨b, 0, none⟩ = some a0 ∧ W.cell? ⟨b, 1, none⟩ = some a1 ∧ Held w b a0 a1 b0 b1 W
theorem held_S {w : World} {b : Nat} {a0 a1 b0 b1 : Value} {W : World} (h : Held w b a0 a1 b0 b1 W) : HeldS w b a0 a1 b0 b1 W := ⟨h.1.1.c0, h.1.1.c1, h.1.2.1.c0, h.1.2.1.c1, h.2.c0, h.2.c1, h⟩
theorem Held.next {w : World} {b : Nat} {a0 a1 b0 b1 : Value} {W W' : World} (h : Held w b a0 a1 b0 b1 W) (hb : Below W.heap.size W W') : Held w b a0 a1 b0 b1 W' := ⟨h.1.next hb, h.2.next hb⟩
theorem Held.drew {w : World} {b : Nat} {a0 a1 b0 b1 : Value} {W : World} (h : Held w b a0 a1 b0 b1 W) : Held w b a0 a1 b0 b1 W.drew := ⟨h.1.drew, h.2⟩
theorem Held.tab {w : World} {b : Nat} {a0 a1 b0 b1 : Value} {W : World} (h : Held w b a0 a1 b0 b1 W) (ht : Tab w) : Tab W := ht.below h.1.2.2

set_option maxRecDepth 100000 in
set_option maxHeartbeats 4000000 in
theorem Tryd.Prints_walk (m s k t x l N : Int) (L : List UInt8) (hx : mayB m s = true) (hy : mayB k t = true)
    (G16 : Hid (∀ W, Tab W → Calls Tryd.prog 16 #[.agg #[.int .i64 m, .int .i64 s]] W fun e w' => e = .returned (.string ⟨L.toArray⟩) ∧ Below W.heap.size W w'))
    (G17 : Hid (∀ W, Calls Tryd.prog 17 #[.agg #[.int .i64 m, .int .i64 s]] W fun e w' => e = .returned (.string ⟨L.toArray⟩) ∧ Below W.heap.size W w'))
    (G18 : Hid (∀ W, Calls Tryd.prog 18 #[.agg #[.int .i64 m, .int .i64 s]] W fun e w' => e = .returned (.agg #[.int .i64 l, .int .i64 N]) ∧ Below W.heap.size W w'))
    (G19 : Hid (∀ W, Calls Tryd.prog 19 #[.agg #[.int .i64 m, .int .i64 s]] W fun e w' => e = .returned (.agg #[.int .i64 l, .int .i64 N]) ∧ Below W.heap.size W w'))
    (G20 : Hid (∀ W, Calls Tryd.prog 20 #[.agg #[.int .i64 m, .int .i64 s], .agg #[.int .i64 k, .int .i64 t]] W fun e w' => e = .returned (.int .i64 x) ∧ Below W.heap.size W w'))
    (G21 : Hid (∀ W, Calls Tryd.prog 21 #[.agg #[.int .i64 m, .int .i64 s], .agg #[.int .i64 k, .int .i64 t]] W fun e w' => e = .returned (.int .i64 x) ∧ Below W.heap.size W w'))
    (w : World) (ht : Tab w) :
    Calls Tryd.prog 5 #[.agg #[.int .i64 m, .int .i64 s], .agg #[.int .i64 k, .int .i64 t]] w fun e w' => e = .returned (.bool true) ∧ Below w.heap.size w w' := by
  have HS : Hid (∀ W, Tab W → Calls Tryd.prog 10 #[] W fun e w' => e = .returned (.bool true) ∧ Below W.heap.size W w') := fun W h => Tryd.shown_any W h
  have HT := Lib.hid ht
  obtain ⟨a1, a2, a3, a4⟩ := mayB_of hx
  obtain ⟨b1, b2, b3, b4⟩ := mayB_of hy
  have T0 := Two.new w (.int .i64 m) (.int .i64 s) (.int .i64 k) (.int .i64 t)
  have T3 := (T0.alloc (.cells #[.int .i64 m, .int .i64 s] 27)).alloc (.cells #[.int .i64 k, .int .i64 t] 27)
  clear hx hy ht T0
  go_enter Tryd.func5, Tryd.ntmps5
  go_wp2_with (go_at_call 15; refine (Tryd.good_in _ _ (by omega) (by omega) (by omega) (by omega) _).mono ?_; rintro e w' ⟨rfl, rfl⟩)
  go_wp2_with (go_at_call 10; refine (HS.out _ (HT.out.below T3.2.2)).mono ?_; rintro e w1 ⟨rfl, hb⟩; have T4 := T3.next hb; obtain ⟨x0, x1, x2, x3⟩ := T4.read; clear hb)
  have hS := held_S (show Held w w1.heap.size (.int .i64 m) (.int .i64 s) (.int .i64 k) (.int .i64 t) (w1.alloc (.cells #[.int .i64 m, .int .i64 s] 30)) from ⟨T4.alloc _, Pair.new w1 30 (.int .i64 m) (.int .i64 s)⟩)
  unfold HeldS at hS
  clear T3 T4 HS x0 x1 x2 x3 a1 a2 a3 a4 b1 b2 b3 b4
  go_region_held3 (fun W => W.cell? ⟨w.heap.size, 0, none⟩ = some (.int .i64 m) ∧ W.cell? ⟨w.heap.size, 1, none⟩ = some (.int .i64 s) ∧ W.cell? ⟨w.heap.size + 1, 0, none⟩ = some (.int .i64 k) ∧ W.cell? ⟨w.heap.size + 1, 1, none⟩ = some (.int .i64 t) ∧ W.cell? ⟨w1.heap.size, 0, none⟩ = some (.int .i64 m) ∧ W.cell? ⟨w1.heap.size, 1, none⟩ = some (.int .i64 s) ∧ Held w w1.heap.size (.int .i64 m) (.int .i64 s) (.int .i64 k) (.int .i64 t) W)
    ((go_split_ands; (first | exact held_S (by assumption) | exact held_S (Held.drew (by assumption)) | exact held_S (Held.next (by assumption) (by assumption)))))
    (first
      | (go_at_call 16; (with_reducible refine (G16.out _ (by go_split_ands; exact Held.tab (by assumption) HT.out)).mono ?_); rintro e w' ⟨rfl, hb⟩)
      | (go_at_call 17; (with_reducible refine (G17.out _).mono ?_); rintro e w' ⟨rfl, hb⟩)
      | (go_at_call 18; (with_reducible refine (G18.out _).mono ?_); rintro e w' ⟨rfl, hb⟩)
      | (go_at_call 19; (with_reducible refine (G19.out _).mono ?_); rintro e w' ⟨rfl, hb⟩)
      | (go_at_call 20; (with_reducible refine (G20.out _).mono ?_); rintro e w' ⟨rfl, hb⟩)
      | (go_at_call 21; (with_reducible refine (G21.out _).mono ?_); rintro e w' ⟨rfl, hb⟩))
  have T6 := (show _ ∧ _ ∧ _ ∧ _ ∧ _ ∧ _ ∧ Held w w1.heap.size (.int .i64 m) (.int .i64 s) (.int .i64 k) (.int .i64 t) w' by assumption).2.2.2.2.2.2
  clear hS
  go_wp2
  go_ret
  exact ⟨rfl, T6.1.2.2⟩
#print axioms Tryd.Prints_walk
end Go.Proofs
