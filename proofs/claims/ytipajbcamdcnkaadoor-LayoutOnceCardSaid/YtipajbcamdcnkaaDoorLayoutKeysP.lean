/- layout.Keyword and layout.Of of this program. Conditions: the array of keywords holds what the card lays. -/
import Derived.Test.YtipajbcamdcnkaaDoorLayoutKeys
import Derived.Test.YtipajbcamdcnkaaDoorLayoutLines
import Derived.Test.YtipajbcamdcnkaaDoorTextTab
namespace Go.Layout
/-- The texts of the array of keywords. -/
def lkws : List (List UInt8) := [[], [70, 85, 76, 76, 95, 77, 65, 84, 82, 73, 88], [85, 80, 80, 69, 82, 95, 82, 79, 87], [76, 79, 87, 69, 82, 95, 82, 79, 87], [85, 80, 80, 69, 82, 95, 68, 73, 65, 71, 95, 82, 79, 87], [76, 79, 87, 69, 82, 95, 68, 73, 65, 71, 95, 82, 79, 87], [85, 80, 80, 69, 82, 95, 67, 79, 76], [76, 79, 87, 69, 82, 95, 67, 79, 76]]
end Go.Layout
namespace Go.Proofs
open Go.RowKit Go.Shelf Go.Layout Go.TextTab
attribute [local go_sem] Oper.semAt_some

/-- The array of keywords holds what the card lays. -/
def LayTab (w : World) : Prop := TextsAre Tryd.prog w "entrepot/layout.keywords" lkws
theorem LayTab.below {w w' : World} (h : LayTab w) (hb : Below w.heap.size w w') : LayTab w' := TextsAre.same h fun g hg => hb.block g hg
theorem lnamed : Tryd.prog.globalNamed "entrepot/layout.keywords" = some 0 := by kernel_rfl
structure LayCells (w : World) : Prop where
  c1 : w.cell? ⟨0, 1, none⟩ = some (.string ⟨#[70, 85, 76, 76, 95, 77, 65, 84, 82, 73, 88]⟩)
  c2 : w.cell? ⟨0, 2, none⟩ = some (.string ⟨#[85, 80, 80, 69, 82, 95, 82, 79, 87]⟩)
  c3 : w.cell? ⟨0, 3, none⟩ = some (.string ⟨#[76, 79, 87, 69, 82, 95, 82, 79, 87]⟩)
  c4 : w.cell? ⟨0, 4, none⟩ = some (.string ⟨#[85, 80, 80, 69, 82, 95, 68, 73, 65, 71, 95, 82, 79, 87]⟩)
  c5 : w.cell? ⟨0, 5, none⟩ = some (.string ⟨#[76, 79, 87, 69, 82, 95, 68, 73, 65, 71, 95, 82, 79, 87]⟩)
  c6 : w.cell? ⟨0, 6, none⟩ = some (.string ⟨#[85, 80, 80, 69, 82, 95, 67, 79, 76]⟩)
  c7 : w.cell? ⟨0, 7, none⟩ = some (.string ⟨#[76, 79, 87, 69, 82, 95, 67, 79, 76]⟩)
theorem LayTab.cells {w : World} (h : LayTab w) : LayCells w :=
  ⟨TextsAre.cell h lnamed rfl, TextsAre.cell h lnamed rfl, TextsAre.cell h lnamed rfl, TextsAre.cell h lnamed rfl, TextsAre.cell h lnamed rfl, TextsAre.cell h lnamed rfl, TextsAre.cell h lnamed rfl⟩

theorem Tryd.Keyword_calls (k : Int) (w : World) (hT : LayTab w) :
    Calls Tryd.prog 14 #[.int .i64 k] w fun e w' => e = .returned (.string (lkwS k)) ∧ w' = w := by
  obtain ⟨c1, c2, c3, c4, c5, c6, c7⟩ := hT.cells
  clear hT
  have K := fun (w : World) => Tryd.known_calls k w
  by_cases hk : 1 ≤ k ∧ k ≤ 7
  · rw [show knownB k = true by simp [knownB]; omega] at K
    rcases (show k = 1 ∨ k = 2 ∨ k = 3 ∨ k = 4 ∨ k = 5 ∨ k = 6 ∨ k = 7 by omega) with rfl | rfl | rfl | rfl | rfl | rfl | rfl
    all_goals
      go_enter Tryd.func14, Tryd.ntmps14
      go_wp2_with (go_at_call 30; (with_reducible refine (K _).mono ?_); rintro e w1 ⟨rfl, hw1⟩; obtain rfl : w = w1 := hw1.symm)
      go_ret
      exact ⟨rfl, rfl⟩
  · rw [lkwS_none hk]
    rw [show knownB k = false by simp [knownB]; omega] at K
    go_enter Tryd.func14, Tryd.ntmps14
    go_wp2_with (go_at_call 30; (with_reducible refine (K _).mono ?_); rintro e w1 ⟨rfl, hw1⟩; obtain rfl : w = w1 := hw1.symm)
    go_ret
    exact ⟨rfl, rfl⟩

set_option maxRecDepth 100000 in
set_option maxHeartbeats 1000000 in
theorem Tryd.Of_calls (s : ByteArray) (w : World) (hT : LayTab w) :
    Calls Tryd.prog 16 #[.string s] w fun e w' => e = .returned (.int .i64 (lofR s)) ∧ w' = w := by
  obtain ⟨c1, c2, c3, c4, c5, c6, c7⟩ := hT.cells
  clear hT
  go_enter Tryd.func16, Tryd.ntmps16
  go_wp2
  go_loop [3] (fun i => ∃ j : Nat, 1 ≤ j ∧ j ≤ 8 ∧ i = .int .i64 (j : Int) ∧ Hid (lofR s = lofFrom s j (8 - j))) (fun i => 8 - (intOf i).toNat)
  case atStart => exact ⟨1, by omega, by omega, rfl, rfl⟩
  case round =>
    obtain ⟨j, hj1, hj, rfl, hH⟩ := hrel
    by_cases hlt : j < 8
    · obtain ⟨m, hm⟩ : ∃ m, 8 - j = m + 1 := ⟨7 - j, by omega⟩
      have hH2 := hH.out
      rw [hm] at hH2
      simp only [lofFrom] at hH2
      clear hH
      have hm2 : 8 - (j + 1) = m := by omega
      rcases (show j = 1 ∨ j = 2 ∨ j = 3 ∨ j = 4 ∨ j = 5 ∨ j = 6 ∨ j = 7 by omega) with rfl | rfl | rfl | rfl | rfl | rfl | rfl
      all_goals
        simp only [lkAt, lk1, lk2, lk3, lk4, lk5, lk6, lk7] at hH2
        split at hH2
        · rename_i he
          subst he
          have HH := Lib.hid hH2
          clear hH2 hm hm2
          go_wp2
          go_ret
          exact ⟨lret_num HH.out.symm, rfl⟩
        · rename_i he
          have hne := ltext_beq he
          have HH := Lib.hid hH2
          have Hm := Lib.hid hm2
          clear hH2 hm hm2
          go_wp2
          go_round
          case rel =>
            have e := HH.out
            rw [← Hm.out] at e
            first | exact ⟨2, by omega, by omega, by go_num, Lib.hid e⟩ | exact ⟨3, by omega, by omega, by go_num, Lib.hid e⟩ | exact ⟨4, by omega, by omega, by go_num, Lib.hid e⟩ | exact ⟨5, by omega, by omega, by go_num, Lib.hid e⟩ | exact ⟨6, by omega, by omega, by go_num, Lib.hid e⟩ | exact ⟨7, by omega, by omega, by go_num, Lib.hid e⟩ | exact ⟨8, by omega, by omega, by go_num, Lib.hid e⟩
          case measure => simp [intOf]
    · obtain rfl : j = 8 := by omega
      go_wp2
      go_ret
      exact ⟨lret_num hH.out.symm, rfl⟩
#print axioms Tryd.Of_calls
#print axioms Tryd.Keyword_calls
end Go.Proofs
