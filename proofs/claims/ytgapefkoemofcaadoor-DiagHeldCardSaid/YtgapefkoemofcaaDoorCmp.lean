/- cmp.Compare and cmp.Or as this program calls them; the order of marks. No condition but that a list of two is what it is. -/
import Derived.Test.YtgapefkoemofcaaDoorProg
import Derived.Test.YtgapefkoemofcaaDoorMarks
import Derived.WalkKit
import Derived.Lib.Hide
import Derived.Deep.DrawnRows
import Derived.Deep.RegionHeld3
import Derived.Deep.QuietTactic
import Derived.BigQuiet
import Derived.RangeFuncRecord
namespace Go.Dg
def cmpI (x y : Int) : Int := if x < y then -1 else if y < x then 1 else 0
def orI (x y : Int) : Int := if x = 0 then y else x
def cmpM (a b : Mk) : Int := orI (cmpI a.1 b.1) (cmpI a.2 b.2)
theorem cmpM_lt {a b : Mk} : cmpM a b < 0 ↔ lt a b = true := by
  rw [lt_iff]; unfold cmpM orI cmpI
  split <;> (repeat' split at *) <;> omega
theorem cmpM_eq {a b : Mk} : cmpM a b = 0 ↔ a = b := by
  unfold cmpM orI cmpI
  constructor
  · intro h
    refine Prod.ext ?_ ?_ <;> (split at h <;> (repeat' split at *) <;> omega)
  · rintro rfl
    simp
theorem cmpM_le {a b : Mk} : cmpM a b ≤ 0 ↔ lt b a = false := by
  rw [lt_no]; unfold cmpM orI cmpI
  split <;> (repeat' split at *) <;> omega
theorem cmpI_in (x y : Int) : cmpI x y = -1 ∨ cmpI x y = 0 ∨ cmpI x y = 1 := by
  unfold cmpI; split
  · exact .inl rfl
  · split
    · exact .inr (.inr rfl)
    · exact .inr (.inl rfl)
end Go.Dg
namespace Go.Proofs
open Go.RowKit Go.Dg
attribute [local go_sem] Oper.semAt_some
attribute [local go_sem ↓] Go.wp_at_zero Go.wp_at_succ

theorem ret_int' {k : IntKind} {a b : Int} (h : a = b) : Ending.returned (.int k a) = .returned (.int k b) := by rw [h]
theorem Tryd.nan_any (x : Int) (w : World) : Calls Tryd.prog 40 #[.int .i64 x] w fun e w' => e = .returned (.bool false) ∧ w = w' := by
  go_enter Tryd.func40, Tryd.ntmps40
  go_wp2
  go_ret
  exact ⟨rfl, rfl⟩
theorem Tryd.nanE_any (x : Int) (w : World) : Calls Tryd.prog 41 #[.int .i64 x] w fun e w' => e = .returned (.bool false) ∧ w = w' := by
  go_enter Tryd.func41, Tryd.ntmps41
  go_wp2
  go_ret
  exact ⟨rfl, rfl⟩
theorem Tryd.Compare_any (x y : Int) (w : World) : Calls Tryd.prog 34 #[.int .i64 x, .int .i64 y] w fun e w' => e = .returned (.int .i64 (cmpI x y)) ∧ w = w' := by
  have h : (x < y ∧ cmpI x y = -1) ∨ (¬ x < y ∧ y < x ∧ cmpI x y = 1) ∨ (¬ x < y ∧ ¬ y < x ∧ cmpI x y = 0) := by unfold cmpI; (repeat' split) <;> omega
  rcases h with ⟨h1, h⟩ | ⟨h1, h2, h⟩ | ⟨h1, h2, h⟩
  all_goals
    rw [h]; clear h
    go_enter Tryd.func34, Tryd.ntmps34
    go_wp2_with (go_at_call 40; refine (Tryd.nan_any _ _).mono ?_; rintro e w' ⟨rfl, rfl⟩)
    go_ret
    exact ⟨rfl, rfl⟩
theorem Tryd.CompareE_any (x y : Int) (w : World) : Calls Tryd.prog 35 #[.int .i64 x, .int .i64 y] w fun e w' => e = .returned (.int .i64 (cmpI x y)) ∧ w = w' := by
  have h : (x < y ∧ cmpI x y = -1) ∨ (¬ x < y ∧ y < x ∧ cmpI x y = 1) ∨ (¬ x < y ∧ ¬ y < x ∧ cmpI x y = 0) := by unfold cmpI; (repeat' split) <;> omega
  rcases h with ⟨h1, h⟩ | ⟨h1, h2, h⟩ | ⟨h1, h2, h⟩
  all_goals
    rw [h]; clear h
    go_enter Tryd.func35, Tryd.ntmps35
    go_wp2_with (go_at_call 41; refine (Tryd.nanE_any _ _).mono ?_; rintro e w' ⟨rfl, rfl⟩)
    go_ret
    exact ⟨rfl, rfl⟩
set_option maxHeartbeats 400000 in
theorem Tryd.Or_any (x y : Int) (b : Nat) (w : World) (c0 : w.cell? ⟨b, 0, none⟩ = some (.int .i64 x)) (c1 : w.cell? ⟨b, 1, none⟩ = some (.int .i64 y)) :
    Calls Tryd.prog 33 #[.slice (some ⟨b, 0, none⟩) 2 2] w fun e w' => e = .returned (.int .i64 (orI x y)) ∧ w = w' := by
  go_enter Tryd.func33, Tryd.ntmps33
  go_wp2
  go_loop [8] (fun i => i = .int .i64 0 ∨ (i = .int .i64 1 ∧ x = 0) ∨ (i = .int .i64 2 ∧ x = 0 ∧ y = 0)) (fun i => 2 - (intOf i).toNat)
  case atStart => exact .inl rfl
  case round =>
    rcases hrel with rfl | ⟨rfl, rfl⟩ | ⟨rfl, rfl, rfl⟩
    · by_cases h : x = 0
      · subst h
        go_wp2
        go_round
        case rel => exact .inr (.inl (by simp))
        case measure => simp [intOf]
      · have h' : (x == 0) = false := beq_eq_false_iff_ne.2 h
        have HO : Hid (orI x y = x) := by unfold Hid orI; rw [if_neg h]
        go_wp2
        go_ret
        exact ⟨ret_int' HO.out.symm, rfl⟩
    · by_cases h : y = 0
      · subst h
        go_wp2
        go_round
        case rel => exact .inr (.inr (by simp))
        case measure => simp [intOf]
      · have h' : (y == 0) = false := beq_eq_false_iff_ne.2 h
        go_wp2
        go_ret
        exact ⟨rfl, rfl⟩
    · go_wp2
      go_ret
      exact ⟨rfl, rfl⟩
/-- A block of two cells, of the call's own. -/
def Two (W : World) (b : Nat) (x y : Value) : Prop := b < W.heap.size ∧ W.cell? ⟨b, 0, none⟩ = some x ∧ W.cell? ⟨b, 1, none⟩ = some y
theorem Two.new (w : World) (x y : Value) (t : TypeId) : Two (w.alloc (.cells #[x, y] t)) w.heap.size x y := by
  have e := World.alloc_heap_new w (.cells #[x, y] t)
  refine ⟨by simp, ?_, ?_⟩
  · unfold World.cell?; simp only [e]; rfl
  · unfold World.cell?; simp only [e]; rfl
theorem Two.newAt {w : World} {n : Nat} (x y : Value) (t : TypeId) (h : n = w.heap.size) : Two (w.alloc (.cells #[x, y] t)) n x y := by rw [h]; exact Two.new w x y t
theorem Two.below {B b : Nat} {W W' : World} {x y : Value} (h : Two W b x y) (hb : Below B W W') (hlt : b < B) : Two W' b x y :=
  ⟨Nat.lt_of_lt_of_le h.1 hb.size, (hb.cell (p := ⟨b, 0, none⟩) hlt).trans h.2.1, (hb.cell (p := ⟨b, 1, none⟩) hlt).trans h.2.2⟩
theorem Two.next {b : Nat} {W W' : World} {x y : Value} (h : Two W b x y) (hb : Below W.heap.size W W') : Two W' b x y := h.below hb h.1
theorem Two.alloc {b : Nat} {W : World} {x y : Value} (h : Two W b x y) (o : Obj) : Two (W.alloc o) b x y := h.next ((Below.refl _ _).alloc (Nat.le_refl _) o)
theorem Two.drew {b : Nat} {W : World} {x y : Value} (h : Two W b x y) : Two W.drew b x y := h
/-- What the comparison holds while it goes. -/
def Held2 (w : World) (a b : Mk) (W : World) : Prop := Two W w.heap.size (.int .i64 a.1) (.int .i64 a.2) ∧ Two W (w.heap.size + 1) (.int .i64 b.1) (.int .i64 b.2) ∧ Below w.heap.size w W
theorem Held2.new (w : World) (a b : Mk) (t u : TypeId) : Held2 w a b ((w.alloc (.cells #[.int .i64 a.1, .int .i64 a.2] t)).alloc (.cells #[.int .i64 b.1, .int .i64 b.2] u)) :=
  ⟨(Two.new _ _ _ _).alloc _, by have := Two.new (w.alloc (.cells #[.int .i64 a.1, .int .i64 a.2] t)) (.int .i64 b.1) (.int .i64 b.2) u; simpa using this, ((Below.refl _ w).alloc (Nat.le_refl _) _).alloc (by simp) _⟩
theorem Held2.drew {w W : World} {a b : Mk} (h : Held2 w a b W) : Held2 w a b W.drew := ⟨h.1, h.2.1, h.2.2.drew⟩
theorem Held2.alloc {w W : World} {a b : Mk} (h : Held2 w a b W) (o : Obj) : Held2 w a b (W.alloc o) := ⟨h.1.alloc o, h.2.1.alloc o, h.2.2.alloc h.2.2.size o⟩
theorem Held2.next {w W W' : World} {a b : Mk} (h : Held2 w a b W) (hb : Below W.heap.size W W') : Held2 w a b W' := ⟨h.1.next hb, h.2.1.next hb, h.2.2.trans (hb.mono h.2.2.size)⟩
theorem held2_S {w W : World} {a b : Mk} (h : Held2 w a b W) : W.cell? ⟨w.heap.size, 0, none⟩ = some (.int .i64 a.1) ∧ W.cell? ⟨w.heap.size, 1, none⟩ = some (.int .i64 a.2) ∧ W.cell? ⟨w.heap.size + 1, 0, none⟩ = some (.int .i64 b.1) ∧ W.cell? ⟨w.heap.size + 1, 1, none⟩ = some (.int .i64 b.2) ∧ Held2 w a b W := ⟨h.1.2.1, h.1.2.2, h.2.1.2.1, h.2.1.2.2, h⟩
set_option maxRecDepth 100000 in
set_option maxHeartbeats 2000000 in
theorem Tryd.compare_any (a b : Mk) (w : World) : Calls Tryd.prog 25 #[.agg #[.int .i64 a.1, .int .i64 a.2], .agg #[.int .i64 b.1, .int .i64 b.2]] w fun e w' => e = .returned (.int .i64 (cmpM a b)) ∧ Below w.heap.size w w' := by
  obtain ⟨x, hx⟩ : ∃ x, x = cmpI a.1 b.1 := ⟨_, rfl⟩
  obtain ⟨y, hy⟩ : ∃ y, y = cmpI a.2 b.2 := ⟨_, rfl⟩
  have HM : Hid (cmpM a b = orI x y) := by unfold Hid cmpM; rw [hx, hy]
  have H1 : Hid (∀ W, Calls Tryd.prog 34 #[.int .i64 a.1, .int .i64 b.1] W fun e w' => e = .returned (.int .i64 x) ∧ W = w') := by intro W; rw [hx]; exact Tryd.Compare_any _ _ W
  have H2 : Hid (∀ W, Calls Tryd.prog 35 #[.int .i64 a.2, .int .i64 b.2] W fun e w' => e = .returned (.int .i64 y) ∧ W = w') := by intro W; rw [hy]; exact Tryd.CompareE_any _ _ W
  have H3 : Hid (∀ (V : World) (n : Nat), Two V n (.int .i64 x) (.int .i64 y) → Calls Tryd.prog 33 #[.slice (some ⟨n, 0, none⟩) 2 2] V fun e w' => e = .returned (.int .i64 (orI x y)) ∧ V = w') := fun V n h => Tryd.Or_any x y n V h.2.1 h.2.2
  clear hx hy
  go_enter Tryd.func25, Tryd.ntmps25
  go_wp2
  have hS := held2_S (Held2.new w a b 47 47)
  go_region_held3 (fun W => W.cell? ⟨w.heap.size, 0, none⟩ = some (.int .i64 a.1) ∧ W.cell? ⟨w.heap.size, 1, none⟩ = some (.int .i64 a.2) ∧ W.cell? ⟨w.heap.size + 1, 0, none⟩ = some (.int .i64 b.1) ∧ W.cell? ⟨w.heap.size + 1, 1, none⟩ = some (.int .i64 b.2) ∧ Held2 w a b W)
    ((go_split_ands; (first | exact held2_S (by assumption) | exact held2_S (Held2.drew (by assumption)) | exact held2_S (Held2.next (by assumption) (by assumption)) | exact held2_S (Held2.alloc (by assumption) _))))
    (first | (go_at_call 34; (with_reducible refine (H1.out _).mono ?_); rintro e w' ⟨rfl, rfl⟩) | (go_at_call 35; (with_reducible refine (H2.out _).mono ?_); rintro e w' ⟨rfl, rfl⟩) | (go_at_call 33; (with_reducible refine Calls.mono (H3.out _ _ (by first | exact Two.newAt _ _ _ (by simp) | exact Two.drew (Two.newAt _ _ _ (by simp)))) ?_); rintro e w' ⟨rfl, rfl⟩))
  go_wp2
  go_ret
  exact ⟨ret_int' HM.out.symm, ((((Below.refl _ w).alloc (Nat.le_refl _) _).alloc (by simp) _).alloc (by simp; omega) _).drew⟩
#print axioms Tryd.compare_any
end Go.Proofs
