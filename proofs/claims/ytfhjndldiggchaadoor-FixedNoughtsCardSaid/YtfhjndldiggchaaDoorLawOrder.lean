/- The law FixedOrder, as a contract. Conditions: the integers that an int holds; the table of powers of ten holds what the card lays. -/
import Derived.Test.YtfhjndldiggchaaDoorOrder
import Derived.Deep.DrawnRows
namespace Go.Proofs
open Go.RowKit Go.Fx
attribute [local go_sem] Oper.semAt_some
attribute [local go_sem ↓] Go.wp_at_zero Go.wp_at_succ

theorem three_S {w W : World} {a0 a1 b0 b1 c0 c1 : Value} (h : Three w a0 a1 b0 b1 c0 c1 W) : W.cell? ⟨w.heap.size, 0, none⟩ = some a0 ∧ W.cell? ⟨w.heap.size, 1, none⟩ = some a1 ∧ W.cell? ⟨w.heap.size + 1, 0, none⟩ = some b0 ∧ W.cell? ⟨w.heap.size + 1, 1, none⟩ = some b1 ∧ Three w a0 a1 b0 b1 c0 c1 W := ⟨h.1.c0, h.1.c1, h.2.1.c0, h.2.1.c1, h⟩
/-- How numbers that compare as x hang together with their least forms, and with a third one. -/
def Hang (x y l1 N1 l2 N2 z13 z23 : Int) : Prop :=
  (x = -1 ∧ y = 1 ∧ (l1 == l2) = false ∧ 0 < z23) ∨ (x = -1 ∧ y = 1 ∧ (l1 == l2) = false ∧ z23 ≤ 0 ∧ z13 ≤ 0) ∨
  (x = -1 ∧ y = 1 ∧ l1 = l2 ∧ (N1 == N2) = false ∧ 0 < z23) ∨ (x = -1 ∧ y = 1 ∧ l1 = l2 ∧ (N1 == N2) = false ∧ z23 ≤ 0 ∧ z13 ≤ 0) ∨
  (x = 0 ∧ y = 0 ∧ l1 = l2 ∧ N1 = N2 ∧ 0 < z23) ∨ (x = 0 ∧ y = 0 ∧ l1 = l2 ∧ N1 = N2 ∧ z23 ≤ 0 ∧ z13 ≤ 0) ∨
  (x = 1 ∧ y = -1 ∧ (l1 == l2) = false) ∨ (x = 1 ∧ y = -1 ∧ l1 = l2 ∧ (N1 == N2) = false)
theorem hang_of {x l1 N1 l2 N2 z13 z23 : Int} (hc : x = -1 ∨ x = 0 ∨ x = 1) (hq : x = 0 ↔ l1 = l2 ∧ N1 = N2) (ht : x ≤ 0 → z23 ≤ 0 → z13 ≤ 0) : Hang x (-x) l1 N1 l2 N2 z13 z23 := by
  unfold Hang
  by_cases h2 : z23 ≤ 0
  · rcases hc with rfl | rfl | rfl
    · by_cases hl : l1 = l2
      · have : N1 ≠ N2 := fun e => by have := hq.2 ⟨hl, e⟩; omega
        simp [hl, this, h2, ht (by omega) h2]
      · simp [hl, h2, ht (by omega) h2]
    · have := hq.1 rfl
      simp [this, h2, ht (by omega) h2]
    · by_cases hl : l1 = l2
      · have : N1 ≠ N2 := fun e => by have := hq.2 ⟨hl, e⟩; omega
        simp [hl, this]
      · simp [hl]
  · rcases hc with rfl | rfl | rfl
    · by_cases hl : l1 = l2
      · have : N1 ≠ N2 := fun e => by have := hq.2 ⟨hl, e⟩; omega
        simp [hl, this]; omega
      · simp [hl]; omega
    · have := hq.1 rfl
      simp [this]; omega
    · by_cases hl : l1 = l2
      · have : N1 ≠ N2 := fun e => by have := hq.2 ⟨hl, e⟩; omega
        simp [hl, this]
      · simp [hl]

set_option maxRecDepth 100000 in
set_option maxHeartbeats 4000000 in
theorem Tryd.Order_walk (m s k t u v x y l1 N1 l2 N2 z13 z23 : Int) (hx : mayB m s = true) (hy : mayB k t = true) (hz : mayB u v = true)
    (G12 : Hid (∀ W, Calls Tryd.prog 20 #[.agg #[.int .i64 m, .int .i64 s], .agg #[.int .i64 k, .int .i64 t]] W fun e w' => e = .returned (.int .i64 x) ∧ Below W.heap.size W w'))
    (G21 : Hid (∀ W, Calls Tryd.prog 20 #[.agg #[.int .i64 k, .int .i64 t], .agg #[.int .i64 m, .int .i64 s]] W fun e w' => e = .returned (.int .i64 y) ∧ Below W.heap.size W w'))
    (G23 : Hid (∀ W, Calls Tryd.prog 20 #[.agg #[.int .i64 k, .int .i64 t], .agg #[.int .i64 u, .int .i64 v]] W fun e w' => e = .returned (.int .i64 z23) ∧ Below W.heap.size W w'))
    (G13 : Hid (∀ W, Calls Tryd.prog 20 #[.agg #[.int .i64 m, .int .i64 s], .agg #[.int .i64 u, .int .i64 v]] W fun e w' => e = .returned (.int .i64 z13) ∧ Below W.heap.size W w'))
    (HL1 : Hid (∀ W, Calls Tryd.prog 18 #[.agg #[.int .i64 m, .int .i64 s]] W fun e w' => e = .returned (.agg #[.int .i64 l1, .int .i64 N1]) ∧ Below W.heap.size W w'))
    (HL2 : Hid (∀ W, Calls Tryd.prog 18 #[.agg #[.int .i64 k, .int .i64 t]] W fun e w' => e = .returned (.agg #[.int .i64 l2, .int .i64 N2]) ∧ Below W.heap.size W w'))
    (hH : Hang x y l1 N1 l2 N2 z13 z23) (w : World) (ht : Tab w) :
    Calls Tryd.prog 9 #[.agg #[.int .i64 m, .int .i64 s], .agg #[.int .i64 k, .int .i64 t], .agg #[.int .i64 u, .int .i64 v]] w fun e w' => e = .returned (.bool true) ∧ Below w.heap.size w w' := by
  have HS : Hid (∀ W, Tab W → Calls Tryd.prog 10 #[] W fun e w' => e = .returned (.bool true) ∧ Below W.heap.size W w') := fun W h => Tryd.shown_any W h
  have HT := Lib.hid ht
  obtain ⟨a1, a2, a3, a4⟩ := mayB_of hx
  obtain ⟨b1, b2, b3, b4⟩ := mayB_of hy
  obtain ⟨c1, c2, c3, c4⟩ := mayB_of hz
  have T0 := Three.new w (.int .i64 m) (.int .i64 s) (.int .i64 k) (.int .i64 t) (.int .i64 u) (.int .i64 v)
  have T3 := ((T0.alloc (.cells #[.int .i64 m, .int .i64 s] 27)).alloc (.cells #[.int .i64 k, .int .i64 t] 27)).alloc (.cells #[.int .i64 u, .int .i64 v] 27)
  have hw1 : IntKind.i64.wrap (-1) = -1 := by decide
  have hw2 : IntKind.i64.wrap 1 = 1 := by decide
  have hw3 : IntKind.i64.wrap 0 = 0 := by decide
  clear hx hy hz ht T0
  rcases hH with ⟨rfl, rfl, e1, e2⟩ | ⟨rfl, rfl, e1, e2, e3⟩ | ⟨rfl, rfl, rfl, e1, e2⟩ | ⟨rfl, rfl, rfl, e1, e2, e3⟩ | ⟨rfl, rfl, rfl, rfl, e2⟩ | ⟨rfl, rfl, rfl, rfl, e2, e3⟩ | ⟨rfl, rfl, e1⟩ | ⟨rfl, rfl, rfl, e1⟩
  case inl =>
    go_enter Tryd.func9, Tryd.ntmps9
    go_wp2_with (go_at_call 15; refine (Tryd.good_in _ _ (by omega) (by omega) (by omega) (by omega) _).mono ?_; rintro e w' ⟨rfl, rfl⟩)
    go_wp2_with (go_at_call 10; refine (HS.out _ (HT.out.below T3.2.2.2)).mono ?_; rintro e w1 ⟨rfl, hb⟩; have T4 := T3.next hb; obtain ⟨x0, x1, x2, x3, x4, x5⟩ := T4.read; clear hb)
    go_wp2_with (go_at_call 20; (with_reducible refine (G12.out _).mono ?_); rintro e w2 ⟨rfl, hb⟩; have T5 := T4.next hb; clear x0 x1 x2 x3 x4 x5; obtain ⟨x0, x1, x2, x3, x4, x5⟩ := T5.read; clear hb)
    clear x0 x1 x2 x3 x4 x5
    have hS := three_S T5
    clear T3 T4 T5 HS HT G12 a1 a2 a3 a4 b1 b2 b3 b4 c1 c2 c3 c4
    go_region_held3 (fun W => W.cell? ⟨w.heap.size, 0, none⟩ = some (.int .i64 m) ∧ W.cell? ⟨w.heap.size, 1, none⟩ = some (.int .i64 s) ∧ W.cell? ⟨w.heap.size + 1, 0, none⟩ = some (.int .i64 k) ∧ W.cell? ⟨w.heap.size + 1, 1, none⟩ = some (.int .i64 t) ∧ Three w (.int .i64 m) (.int .i64 s) (.int .i64 k) (.int .i64 t) (.int .i64 u) (.int .i64 v) W)
      ((go_split_ands; (first | exact three_S (by assumption) | exact three_S (Three.drew (by assumption)) | exact three_S (Three.next (by assumption) (by assumption)))))
      (first | (go_at_call 20; (with_reducible refine (G21.out _).mono ?_); rintro e w' ⟨rfl, hb⟩) | (go_at_call 18; (with_reducible refine (HL1.out _).mono ?_); rintro e w' ⟨rfl, hb⟩) | (go_at_call 18; (with_reducible refine (HL2.out _).mono ?_); rintro e w' ⟨rfl, hb⟩))
    have T6 := (show _ ∧ _ ∧ _ ∧ _ ∧ Three w (.int .i64 m) (.int .i64 s) (.int .i64 k) (.int .i64 t) (.int .i64 u) (.int .i64 v) w' by assumption).2.2.2.2
    clear hS
    obtain ⟨x0, x1, x2, x3, x4, x5⟩ := T6.read
    go_wp2_with (go_at_call 20; (with_reducible refine (G23.out _).mono ?_); rintro e w6 ⟨rfl, hb⟩; have T7 := T6.next hb; clear x0 x1 x2 x3 x4 x5; obtain ⟨x0, x1, x2, x3, x4, x5⟩ := T7.read; clear hb)
    go_ret
    exact ⟨rfl, T7.2.2.2⟩
  case inr.inl =>
    go_enter Tryd.func9, Tryd.ntmps9
    go_wp2_with (go_at_call 15; refine (Tryd.good_in _ _ (by omega) (by omega) (by omega) (by omega) _).mono ?_; rintro e w' ⟨rfl, rfl⟩)
    go_wp2_with (go_at_call 10; refine (HS.out _ (HT.out.below T3.2.2.2)).mono ?_; rintro e w1 ⟨rfl, hb⟩; have T4 := T3.next hb; obtain ⟨x0, x1, x2, x3, x4, x5⟩ := T4.read; clear hb)
    go_wp2_with (go_at_call 20; (with_reducible refine (G12.out _).mono ?_); rintro e w2 ⟨rfl, hb⟩; have T5 := T4.next hb; clear x0 x1 x2 x3 x4 x5; obtain ⟨x0, x1, x2, x3, x4, x5⟩ := T5.read; clear hb)
    clear x0 x1 x2 x3 x4 x5
    have hS := three_S T5
    clear T3 T4 T5 HS HT G12 a1 a2 a3 a4 b1 b2 b3 b4 c1 c2 c3 c4
    go_region_held3 (fun W => W.cell? ⟨w.heap.size, 0, none⟩ = some (.int .i64 m) ∧ W.cell? ⟨w.heap.size, 1, none⟩ = some (.int .i64 s) ∧ W.cell? ⟨w.heap.size + 1, 0, none⟩ = some (.int .i64 k) ∧ W.cell? ⟨w.heap.size + 1, 1, none⟩ = some (.int .i64 t) ∧ Three w (.int .i64 m) (.int .i64 s) (.int .i64 k) (.int .i64 t) (.int .i64 u) (.int .i64 v) W)
      ((go_split_ands; (first | exact three_S (by assumption) | exact three_S (Three.drew (by assumption)) | exact three_S (Three.next (by assumption) (by assumption)))))
      (first | (go_at_call 20; (with_reducible refine (G21.out _).mono ?_); rintro e w' ⟨rfl, hb⟩) | (go_at_call 18; (with_reducible refine (HL1.out _).mono ?_); rintro e w' ⟨rfl, hb⟩) | (go_at_call 18; (with_reducible refine (HL2.out _).mono ?_); rintro e w' ⟨rfl, hb⟩))
    have T6 := (show _ ∧ _ ∧ _ ∧ _ ∧ Three w (.int .i64 m) (.int .i64 s) (.int .i64 k) (.int .i64 t) (.int .i64 u) (.int .i64 v) w' by assumption).2.2.2.2
    clear hS
    obtain ⟨x0, x1, x2, x3, x4, x5⟩ := T6.read
    go_wp2_with (go_at_call 20; (with_reducible refine (G23.out _).mono ?_); rintro e w6 ⟨rfl, hb⟩; have T7 := T6.next hb; clear x0 x1 x2 x3 x4 x5; obtain ⟨x0, x1, x2, x3, x4, x5⟩ := T7.read; clear hb)
    go_wp2_with (go_at_call 20; (with_reducible refine (G13.out _).mono ?_); rintro e w7 ⟨rfl, hb⟩; have T8 := T7.next hb; clear hb)
    go_ret
    exact ⟨rfl, T8.2.2.2⟩
  case inr.inr.inl =>
    go_enter Tryd.func9, Tryd.ntmps9
    go_wp2_with (go_at_call 15; refine (Tryd.good_in _ _ (by omega) (by omega) (by omega) (by omega) _).mono ?_; rintro e w' ⟨rfl, rfl⟩)
    go_wp2_with (go_at_call 10; refine (HS.out _ (HT.out.below T3.2.2.2)).mono ?_; rintro e w1 ⟨rfl, hb⟩; have T4 := T3.next hb; obtain ⟨x0, x1, x2, x3, x4, x5⟩ := T4.read; clear hb)
    go_wp2_with (go_at_call 20; (with_reducible refine (G12.out _).mono ?_); rintro e w2 ⟨rfl, hb⟩; have T5 := T4.next hb; clear x0 x1 x2 x3 x4 x5; obtain ⟨x0, x1, x2, x3, x4, x5⟩ := T5.read; clear hb)
    clear x0 x1 x2 x3 x4 x5
    have hS := three_S T5
    clear T3 T4 T5 HS HT G12 a1 a2 a3 a4 b1 b2 b3 b4 c1 c2 c3 c4
    go_region_held3 (fun W => W.cell? ⟨w.heap.size, 0, none⟩ = some (.int .i64 m) ∧ W.cell? ⟨w.heap.size, 1, none⟩ = some (.int .i64 s) ∧ W.cell? ⟨w.heap.size + 1, 0, none⟩ = some (.int .i64 k) ∧ W.cell? ⟨w.heap.size + 1, 1, none⟩ = some (.int .i64 t) ∧ Three w (.int .i64 m) (.int .i64 s) (.int .i64 k) (.int .i64 t) (.int .i64 u) (.int .i64 v) W)
      ((go_split_ands; (first | exact three_S (by assumption) | exact three_S (Three.drew (by assumption)) | exact three_S (Three.next (by assumption) (by assumption)))))
      (first | (go_at_call 20; (with_reducible refine (G21.out _).mono ?_); rintro e w' ⟨rfl, hb⟩) | (go_at_call 18; (with_reducible refine (HL1.out _).mono ?_); rintro e w' ⟨rfl, hb⟩) | (go_at_call 18; (with_reducible refine (HL2.out _).mono ?_); rintro e w' ⟨rfl, hb⟩))
    have T6 := (show _ ∧ _ ∧ _ ∧ _ ∧ Three w (.int .i64 m) (.int .i64 s) (.int .i64 k) (.int .i64 t) (.int .i64 u) (.int .i64 v) w' by assumption).2.2.2.2
    clear hS
    obtain ⟨x0, x1, x2, x3, x4, x5⟩ := T6.read
    go_wp2_with (go_at_call 20; (with_reducible refine (G23.out _).mono ?_); rintro e w6 ⟨rfl, hb⟩; have T7 := T6.next hb; clear x0 x1 x2 x3 x4 x5; obtain ⟨x0, x1, x2, x3, x4, x5⟩ := T7.read; clear hb)
    go_ret
    exact ⟨rfl, T7.2.2.2⟩
  case inr.inr.inr.inl =>
    go_enter Tryd.func9, Tryd.ntmps9
    go_wp2_with (go_at_call 15; refine (Tryd.good_in _ _ (by omega) (by omega) (by omega) (by omega) _).mono ?_; rintro e w' ⟨rfl, rfl⟩)
    go_wp2_with (go_at_call 10; refine (HS.out _ (HT.out.below T3.2.2.2)).mono ?_; rintro e w1 ⟨rfl, hb⟩; have T4 := T3.next hb; obtain ⟨x0, x1, x2, x3, x4, x5⟩ := T4.read; clear hb)
    go_wp2_with (go_at_call 20; (with_reducible refine (G12.out _).mono ?_); rintro e w2 ⟨rfl, hb⟩; have T5 := T4.next hb; clear x0 x1 x2 x3 x4 x5; obtain ⟨x0, x1, x2, x3, x4, x5⟩ := T5.read; clear hb)
    clear x0 x1 x2 x3 x4 x5
    have hS := three_S T5
    clear T3 T4 T5 HS HT G12 a1 a2 a3 a4 b1 b2 b3 b4 c1 c2 c3 c4
    go_region_held3 (fun W => W.cell? ⟨w.heap.size, 0, none⟩ = some (.int .i64 m) ∧ W.cell? ⟨w.heap.size, 1, none⟩ = some (.int .i64 s) ∧ W.cell? ⟨w.heap.size + 1, 0, none⟩ = some (.int .i64 k) ∧ W.cell? ⟨w.heap.size + 1, 1, none⟩ = some (.int .i64 t) ∧ Three w (.int .i64 m) (.int .i64 s) (.int .i64 k) (.int .i64 t) (.int .i64 u) (.int .i64 v) W)
      ((go_split_ands; (first | exact three_S (by assumption) | exact three_S (Three.drew (by assumption)) | exact three_S (Three.next (by assumption) (by assumption)))))
      (first | (go_at_call 20; (with_reducible refine (G21.out _).mono ?_); rintro e w' ⟨rfl, hb⟩) | (go_at_call 18; (with_reducible refine (HL1.out _).mono ?_); rintro e w' ⟨rfl, hb⟩) | (go_at_call 18; (with_reducible refine (HL2.out _).mono ?_); rintro e w' ⟨rfl, hb⟩))
    have T6 := (show _ ∧ _ ∧ _ ∧ _ ∧ Three w (.int .i64 m) (.int .i64 s) (.int .i64 k) (.int .i64 t) (.int .i64 u) (.int .i64 v) w' by assumption).2.2.2.2
    clear hS
    obtain ⟨x0, x1, x2, x3, x4, x5⟩ := T6.read
    go_wp2_with (go_at_call 20; (with_reducible refine (G23.out _).mono ?_); rintro e w6 ⟨rfl, hb⟩; have T7 := T6.next hb; clear x0 x1 x2 x3 x4 x5; obtain ⟨x0, x1, x2, x3, x4, x5⟩ := T7.read; clear hb)
    go_wp2_with (go_at_call 20; (with_reducible refine (G13.out _).mono ?_); rintro e w7 ⟨rfl, hb⟩; have T8 := T7.next hb; clear hb)
    go_ret
    exact ⟨rfl, T8.2.2.2⟩
  case inr.inr.inr.inr.inl =>
    go_enter Tryd.func9, Tryd.ntmps9
    go_wp2_with (go_at_call 15; refine (Tryd.good_in _ _ (by omega) (by omega) (by omega) (by omega) _).mono ?_; rintro e w' ⟨rfl, rfl⟩)
    go_wp2_with (go_at_call 10; refine (HS.out _ (HT.out.below T3.2.2.2)).mono ?_; rintro e w1 ⟨rfl, hb⟩; have T4 := T3.next hb; obtain ⟨x0, x1, x2, x3, x4, x5⟩ := T4.read; clear hb)
    go_wp2_with (go_at_call 20; (with_reducible refine (G12.out _).mono ?_); rintro e w2 ⟨rfl, hb⟩; have T5 := T4.next hb; clear x0 x1 x2 x3 x4 x5; obtain ⟨x0, x1, x2, x3, x4, x5⟩ := T5.read; clear hb)
    clear x0 x1 x2 x3 x4 x5
    have hS := three_S T5
    clear T3 T4 T5 HS HT G12 a1 a2 a3 a4 b1 b2 b3 b4 c1 c2 c3 c4
    go_region_held3 (fun W => W.cell? ⟨w.heap.size, 0, none⟩ = some (.int .i64 m) ∧ W.cell? ⟨w.heap.size, 1, none⟩ = some (.int .i64 s) ∧ W.cell? ⟨w.heap.size + 1, 0, none⟩ = some (.int .i64 k) ∧ W.cell? ⟨w.heap.size + 1, 1, none⟩ = some (.int .i64 t) ∧ Three w (.int .i64 m) (.int .i64 s) (.int .i64 k) (.int .i64 t) (.int .i64 u) (.int .i64 v) W)
      ((go_split_ands; (first | exact three_S (by assumption) | exact three_S (Three.drew (by assumption)) | exact three_S (Three.next (by assumption) (by assumption)))))
      (first | (go_at_call 20; (with_reducible refine (G21.out _).mono ?_); rintro e w' ⟨rfl, hb⟩) | (go_at_call 18; (with_reducible refine (HL1.out _).mono ?_); rintro e w' ⟨rfl, hb⟩) | (go_at_call 18; (with_reducible refine (HL2.out _).mono ?_); rintro e w' ⟨rfl, hb⟩))
    have T6 := (show _ ∧ _ ∧ _ ∧ _ ∧ Three w (.int .i64 m) (.int .i64 s) (.int .i64 k) (.int .i64 t) (.int .i64 u) (.int .i64 v) w' by assumption).2.2.2.2
    clear hS
    obtain ⟨x0, x1, x2, x3, x4, x5⟩ := T6.read
    go_wp2_with (go_at_call 20; (with_reducible refine (G23.out _).mono ?_); rintro e w6 ⟨rfl, hb⟩; have T7 := T6.next hb; clear x0 x1 x2 x3 x4 x5; obtain ⟨x0, x1, x2, x3, x4, x5⟩ := T7.read; clear hb)
    go_ret
    exact ⟨rfl, T7.2.2.2⟩
  case inr.inr.inr.inr.inr.inl =>
    go_enter Tryd.func9, Tryd.ntmps9
    go_wp2_with (go_at_call 15; refine (Tryd.good_in _ _ (by omega) (by omega) (by omega) (by omega) _).mono ?_; rintro e w' ⟨rfl, rfl⟩)
    go_wp2_with (go_at_call 10; refine (HS.out _ (HT.out.below T3.2.2.2)).mono ?_; rintro e w1 ⟨rfl, hb⟩; have T4 := T3.next hb; obtain ⟨x0, x1, x2, x3, x4, x5⟩ := T4.read; clear hb)
    go_wp2_with (go_at_call 20; (with_reducible refine (G12.out _).mono ?_); rintro e w2 ⟨rfl, hb⟩; have T5 := T4.next hb; clear x0 x1 x2 x3 x4 x5; obtain ⟨x0, x1, x2, x3, x4, x5⟩ := T5.read; clear hb)
    clear x0 x1 x2 x3 x4 x5
    have hS := three_S T5
    clear T3 T4 T5 HS HT G12 a1 a2 a3 a4 b1 b2 b3 b4 c1 c2 c3 c4
    go_region_held3 (fun W => W.cell? ⟨w.heap.size, 0, none⟩ = some (.int .i64 m) ∧ W.cell? ⟨w.heap.size, 1, none⟩ = some (.int .i64 s) ∧ W.cell? ⟨w.heap.size + 1, 0, none⟩ = some (.int .i64 k) ∧ W.cell? ⟨w.heap.size + 1, 1, none⟩ = some (.int .i64 t) ∧ Three w (.int .i64 m) (.int .i64 s) (.int .i64 k) (.int .i64 t) (.int .i64 u) (.int .i64 v) W)
      ((go_split_ands; (first | exact three_S (by assumption) | exact three_S (Three.drew (by assumption)) | exact three_S (Three.next (by assumption) (by assumption)))))
      (first | (go_at_call 20; (with_reducible refine (G21.out _).mono ?_); rintro e w' ⟨rfl, hb⟩) | (go_at_call 18; (with_reducible refine (HL1.out _).mono ?_); rintro e w' ⟨rfl, hb⟩) | (go_at_call 18; (with_reducible refine (HL2.out _).mono ?_); rintro e w' ⟨rfl, hb⟩))
    have T6 := (show _ ∧ _ ∧ _ ∧ _ ∧ Three w (.int .i64 m) (.int .i64 s) (.int .i64 k) (.int .i64 t) (.int .i64 u) (.int .i64 v) w' by assumption).2.2.2.2
    clear hS
    obtain ⟨x0, x1, x2, x3, x4, x5⟩ := T6.read
    go_wp2_with (go_at_call 20; (with_reducible refine (G23.out _).mono ?_); rintro e w6 ⟨rfl, hb⟩; have T7 := T6.next hb; clear x0 x1 x2 x3 x4 x5; obtain ⟨x0, x1, x2, x3, x4, x5⟩ := T7.read; clear hb)
    go_wp2_with (go_at_call 20; (with_reducible refine (G13.out _).mono ?_); rintro e w7 ⟨rfl, hb⟩; have T8 := T7.next hb; clear hb)
    go_ret
    exact ⟨rfl, T8.2.2.2⟩
  case inr.inr.inr.inr.inr.inr.inl =>
    go_enter Tryd.func9, Tryd.ntmps9
    go_wp2_with (go_at_call 15; refine (Tryd.good_in _ _ (by omega) (by omega) (by omega) (by omega) _).mono ?_; rintro e w' ⟨rfl, rfl⟩)
    go_wp2_with (go_at_call 10; refine (HS.out _ (HT.out.below T3.2.2.2)).mono ?_; rintro e w1 ⟨rfl, hb⟩; have T4 := T3.next hb; obtain ⟨x0, x1, x2, x3, x4, x5⟩ := T4.read; clear hb)
    go_wp2_with (go_at_call 20; (with_reducible refine (G12.out _).mono ?_); rintro e w2 ⟨rfl, hb⟩; have T5 := T4.next hb; clear x0 x1 x2 x3 x4 x5; obtain ⟨x0, x1, x2, x3, x4, x5⟩ := T5.read; clear hb)
    clear x0 x1 x2 x3 x4 x5
    have hS := three_S T5
    clear T3 T4 T5 HS HT G12 a1 a2 a3 a4 b1 b2 b3 b4 c1 c2 c3 c4
    go_region_held3 (fun W => W.cell? ⟨w.heap.size, 0, none⟩ = some (.int .i64 m) ∧ W.cell? ⟨w.heap.size, 1, none⟩ = some (.int .i64 s) ∧ W.cell? ⟨w.heap.size + 1, 0, none⟩ = some (.int .i64 k) ∧ W.cell? ⟨w.heap.size + 1, 1, none⟩ = some (.int .i64 t) ∧ Three w (.int .i64 m) (.int .i64 s) (.int .i64 k) (.int .i64 t) (.int .i64 u) (.int .i64 v) W)
      ((go_split_ands; (first | exact three_S (by assumption) | exact three_S (Three.drew (by assumption)) | exact three_S (Three.next (by assumption) (by assumption)))))
      (first | (go_at_call 20; (with_reducible refine (G21.out _).mono ?_); rintro e w' ⟨rfl, hb⟩) | (go_at_call 18; (with_reducible refine (HL1.out _).mono ?_); rintro e w' ⟨rfl, hb⟩) | (go_at_call 18; (with_reducible refine (HL2.out _).mono ?_); rintro e w' ⟨rfl, hb⟩))
    have T6 := (show _ ∧ _ ∧ _ ∧ _ ∧ Three w (.int .i64 m) (.int .i64 s) (.int .i64 k) (.int .i64 t) (.int .i64 u) (.int .i64 v) w' by assumption).2.2.2.2
    clear hS
    obtain ⟨x0, x1, x2, x3, x4, x5⟩ := T6.read
    go_wp2
    go_ret
    exact ⟨rfl, T6.2.2.2⟩
  case inr.inr.inr.inr.inr.inr.inr =>
    go_enter Tryd.func9, Tryd.ntmps9
    go_wp2_with (go_at_call 15; refine (Tryd.good_in _ _ (by omega) (by omega) (by omega) (by omega) _).mono ?_; rintro e w' ⟨rfl, rfl⟩)
    go_wp2_with (go_at_call 10; refine (HS.out _ (HT.out.below T3.2.2.2)).mono ?_; rintro e w1 ⟨rfl, hb⟩; have T4 := T3.next hb; obtain ⟨x0, x1, x2, x3, x4, x5⟩ := T4.read; clear hb)
    go_wp2_with (go_at_call 20; (with_reducible refine (G12.out _).mono ?_); rintro e w2 ⟨rfl, hb⟩; have T5 := T4.next hb; clear x0 x1 x2 x3 x4 x5; obtain ⟨x0, x1, x2, x3, x4, x5⟩ := T5.read; clear hb)
    clear x0 x1 x2 x3 x4 x5
    have hS := three_S T5
    clear T3 T4 T5 HS HT G12 a1 a2 a3 a4 b1 b2 b3 b4 c1 c2 c3 c4
    go_region_held3 (fun W => W.cell? ⟨w.heap.size, 0, none⟩ = some (.int .i64 m) ∧ W.cell? ⟨w.heap.size, 1, none⟩ = some (.int .i64 s) ∧ W.cell? ⟨w.heap.size + 1, 0, none⟩ = some (.int .i64 k) ∧ W.cell? ⟨w.heap.size + 1, 1, none⟩ = some (.int .i64 t) ∧ Three w (.int .i64 m) (.int .i64 s) (.int .i64 k) (.int .i64 t) (.int .i64 u) (.int .i64 v) W)
      ((go_split_ands; (first | exact three_S (by assumption) | exact three_S (Three.drew (by assumption)) | exact three_S (Three.next (by assumption) (by assumption)))))
      (first | (go_at_call 20; (with_reducible refine (G21.out _).mono ?_); rintro e w' ⟨rfl, hb⟩) | (go_at_call 18; (with_reducible refine (HL1.out _).mono ?_); rintro e w' ⟨rfl, hb⟩) | (go_at_call 18; (with_reducible refine (HL2.out _).mono ?_); rintro e w' ⟨rfl, hb⟩))
    have T6 := (show _ ∧ _ ∧ _ ∧ _ ∧ Three w (.int .i64 m) (.int .i64 s) (.int .i64 k) (.int .i64 t) (.int .i64 u) (.int .i64 v) w' by assumption).2.2.2.2
    clear hS
    obtain ⟨x0, x1, x2, x3, x4, x5⟩ := T6.read
    go_wp2
    go_ret
    exact ⟨rfl, T6.2.2.2⟩
#print axioms Tryd.Order_walk
end Go.Proofs
