/- The law DiagTells, as a contract. Conditions: the integers that an int holds; the table of powers of ten holds what the card lays. -/
import Derived.Test.YtgapefkoemofcaaDoorShown
namespace Go.Proofs
open Go.RowKit Go.Dg
attribute [local go_sem] Oper.semAt_some
attribute [local go_sem ↓] Go.wp_at_zero Go.wp_at_succ
def HeldU (w : World) (d : Mk) (W : World) : Prop := HeldT w d W ∧ Tab W
theorem HeldU.next {w W W' : World} {d : Mk} (h : HeldU w d W) (hb : Below W.heap.size W W') : HeldU w d W' := ⟨h.1.next hb, h.2.next hb⟩
theorem HeldU.drew {w W : World} {d : Mk} (h : HeldU w d W) : HeldU w d W.drew := ⟨h.1.drew, h.2⟩
theorem heldU_S {w W : World} {d : Mk} (h : HeldU w d W) : W.cell? ⟨w.heap.size, 0, none⟩ = some (.int .i64 d.1) ∧ W.cell? ⟨w.heap.size, 1, none⟩ = some (.int .i64 d.2) ∧ HeldU w d W := ⟨h.1.1.2.1, h.1.1.2.2, h⟩
theorem HeldU.tab {w W : World} {d : Mk} (h : HeldU w d W) : Tab W := h.2
theorem HeldU.tabD {w W : World} {d : Mk} (h : HeldU w d W) : Tab W.drew := h.2
set_option maxRecDepth 100000 in
set_option maxHeartbeats 4000000 in
theorem Tryd.DiagTells_calls (s : ByteArray) (d : Mk) (hs : s.size ≤ maxLen) (h1 : I64 d.1) (h2 : I64 d.2) (w : World) (ht : Tab w) :
    Calls Tryd.prog 6 #[.string s, .agg #[.int .i64 d.1, .int .i64 d.2]] w fun e w' => e = .returned (.bool true) ∧ Below w.heap.size w w' := by
  have HS : Hid (∀ W, Tab W → Calls Tryd.prog 9 #[] W fun e w' => e = .returned (.bool true) ∧ Below W.heap.size W w') := fun W h => Tryd.shown_any W h
  have HT := Lib.hid ht
  unfold maxLen at hs
  by_cases hbig : 1000 < s.size
  · have hd : decide ((1000 : Int) < (s.size : Int)) = true := decide_eq_true (by omega)
    clear hbig ht
    go_enter Tryd.func6, Tryd.ntmps6
    go_wp2_with (go_at_call 9; (with_reducible refine (HS.out _ (HT.out.alloc _)).mono ?_); rintro e w1 ⟨rfl, hb1⟩)
    go_ret
    exact ⟨rfl, ((Below.refl _ w).alloc (Nat.le_refl _) _).trans (hb1.mono (by simp))⟩
  · have hd : decide ((1000 : Int) < (s.size : Int)) = false := decide_eq_false (by omega)
    have H1 : Hid (∀ W, Tab W → Calls Tryd.prog 20 #[.string s, .agg #[.int .i64 d.1, .int .i64 d.2]] W fun e w' => e = .returned (.string ⟨(tellL s.data.toList d).toArray⟩) ∧ Below W.heap.size W w') := fun W h => Tryd.Tell_any s d (by omega) h1 h2 W h
    have H2 : Hid (∀ W, Calls Tryd.prog 21 #[.string s, .agg #[.int .i64 d.1, .int .i64 d.2]] W fun e w' => e = .returned (.string ⟨(tellL s.data.toList d).toArray⟩) ∧ Below W.heap.size W w') := fun W => Tryd.rTell_any s d (by omega) h2 W
    have H0 : HeldU w d (w.alloc (.cells #[.int .i64 d.1, .int .i64 d.2] 25)) := ⟨⟨Two.new w (.int .i64 d.1) (.int .i64 d.2) 25, (Below.refl _ w).alloc (Nat.le_refl _) _⟩, ht.alloc _⟩
    generalize tellL s.data.toList d = X at H1 H2
    clear hbig ht h1 h2
    go_enter Tryd.func6, Tryd.ntmps6
    go_wp2_with (go_at_call 9; (with_reducible refine (HS.out _ (HT.out.alloc _)).mono ?_); rintro e w1 ⟨rfl, hb1⟩)
    have hS := heldU_S (H0.next hb1)
    clear HT HS hb1
    go_region_held3 (fun W => W.cell? ⟨w.heap.size, 0, none⟩ = some (.int .i64 d.1) ∧ W.cell? ⟨w.heap.size, 1, none⟩ = some (.int .i64 d.2) ∧ HeldU w d W)
      ((go_split_ands; (first | exact heldU_S (by assumption) | exact heldU_S (HeldU.drew (by assumption)) | exact heldU_S (HeldU.next (by assumption) (by assumption)))))
      (first | (go_at_call 20; (with_reducible refine Calls.mono (H1.out _ (by go_split_ands; first | exact HeldU.tab (by assumption) | exact HeldU.tabD (by assumption))) ?_); rintro e w' ⟨rfl, hb⟩) | (go_at_call 21; (with_reducible refine (H2.out _).mono ?_); rintro e w' ⟨rfl, hb⟩))
    have T := (show _ ∧ _ ∧ HeldU w d w' by assumption).2.2
    clear hS
    go_wp2
    go_ret
    exact ⟨rfl, T.1.2⟩
#print axioms Tryd.DiagTells_calls
end Go.Proofs
