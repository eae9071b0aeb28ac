/- What entrepotlaw03.shown answers: true. No conditions. -/
import Derived.Test.YtlgdhopiifoikaaUpper
import Derived.Test.YtlgdhopiifoikaaKey
namespace Go.Wds
open Go.Proofs
def tA : ByteArray := ⟨#[120, 32, 97, 98, 9, 99, 32]⟩
def tB : ByteArray := ⟨#[78, 65, 77, 69, 32, 58, 32, 97, 32, 98, 32]⟩
theorem fields_A : fieldsI tA 1 7 = [(2, 4), (5, 6)] := by decide
theorem colon_B : seekL colB tB.data.toList 0 11 = 5 := by decide
theorem key_B : keyPart tB 0 11 = ⟨#[78, 65, 77, 69]⟩ := by
  unfold keyPart
  rw [colon_B, show trimL tB.data.toList 0 5 = (0, 4) from by decide]
  rfl
theorem trim_B : trimL tB.data.toList 6 11 = (7, 10) := by decide
theorem isKey_B : isKey ⟨#[78, 65, 77, 69]⟩ = true := by decide
theorem keyIs_B : KeyIs tB 0 11 ⟨#[78, 65, 77, 69]⟩ 7 10 true := by
  have h := KeyIs.both (s := tB) 0 11 (by decide) (by decide) (by rw [key_B]; exact isKey_B) (by rw [colon_B]; decide)
  rw [key_B, colon_B, trim_B] at h
  exact h
theorem up_C : upS ⟨#[97, 90, 45, 122]⟩ = ⟨#[65, 90, 45, 90]⟩ := by decide
theorem name_D : nameL [97, 46, 66, 95, 57, 45] = true := by decide
theorem name_E : nameL [97, 32, 98] = false := by decide
end Go.Wds
namespace Go.Proofs
open Go.RowKit Go.Shelf Go.Wds

theorem Try.FieldsA (w : World) : Calls Try.prog 13 #[.string ⟨#[120, 32, 97, 98, 9, 99, 32]⟩, .int .i64 1, .int .i64 7] w fun e w' => ∃ g cap, e = .returned (.slice (some ⟨g, 0, none⟩) 2 cap) ∧ g < w'.heap.size ∧ Below w.heap.size w w' ∧
    w'.cell? ⟨g, 0, none⟩ = some (.int .i64 2) ∧ w'.cell? ⟨g, 1, none⟩ = some (.int .i64 4) ∧ w'.cell? ⟨g, 2, none⟩ = some (.int .i64 5) ∧ w'.cell? ⟨g, 3, none⟩ = some (.int .i64 6) := by
  refine (Try.Fields_calls tA 1 7 w (by decide)).mono ?_
  rintro e w' ⟨v, rfl, h1, h2⟩
  rw [fields_A] at h1
  obtain ⟨ao, cap, rfl, h3⟩ := h1
  obtain ⟨g, rfl, h4, c0, c1⟩ := h3 0 2 4 rfl
  obtain ⟨g', h5, _, c2, c3⟩ := h3 1 5 6 rfl
  cases h5
  exact ⟨g, cap, rfl, h4, h2, c0, c1, c2, c3⟩
theorem Try.KeyB (w : World) : Calls Try.prog 17 #[.string ⟨#[78, 65, 77, 69, 32, 58, 32, 97, 32, 98, 32]⟩, .int .i64 0, .int .i64 11] w fun e w' => e = .returned (.tuple #[.string ⟨#[78, 65, 77, 69]⟩, .agg #[.int .i64 7, .int .i64 10], .bool true]) ∧ Below w.heap.size w w' :=
  Try.Key_calls tB 0 11 _ _ _ _ w (by decide) keyIs_B
theorem Try.UpperC (w : World) : Calls Try.prog 19 #[.string ⟨#[97, 90, 45, 122]⟩] w fun e w' => e = .returned (.string ⟨#[65, 90, 45, 90]⟩) ∧ Below w.heap.size w w' := by
  have h := Try.Upper_calls ⟨#[97, 90, 45, 122]⟩ w (by decide)
  rwa [up_C] at h
theorem Try.NameD (w : World) : Calls Try.prog 21 #[.string ⟨#[97, 46, 66, 95, 57, 45]⟩] w fun e w' => e = .returned (.bool true) ∧ Below w.heap.size w w' := by
  have h := Try.Name_calls ⟨#[97, 46, 66, 95, 57, 45]⟩ w (by decide)
  rwa [name_D] at h
theorem Try.NameE (w : World) : Calls Try.prog 21 #[.string ⟨#[97, 32, 98]⟩] w fun e w' => e = .returned (.bool false) ∧ Below w.heap.size w w' := by
  have h := Try.Name_calls ⟨#[97, 32, 98]⟩ w (by decide)
  rwa [name_E] at h

set_option maxRecDepth 100000 in
set_option maxHeartbeats 1000000 in
theorem Try.shown_calls (w : World) : Calls Try.prog 10 #[] w fun e w' => e = .returned (.bool true) ∧ Below w.heap.size w w' := by
  have hC := Lib.hid Try.UpperC
  have hD := Lib.hid Try.NameD
  have hE := Lib.hid Try.NameE
  go_enter Try.func10, Try.ntmps10
  go_wp2_with (fail)
  refine (Try.FieldsA _).mono ?_
  rintro e w1 ⟨g, cap, rfl, hg, hb1, a0, a1, a2, a3⟩
  go_wp2_with (fail)
  refine (Try.KeyB _).mono ?_
  rintro e w2 ⟨rfl, hb2⟩
  have d0 := (hb2.cell (p := ⟨g, 0, none⟩) hg).trans a0
  have d1 := (hb2.cell (p := ⟨g, 1, none⟩) hg).trans a1
  have d2 := (hb2.cell (p := ⟨g, 2, none⟩) hg).trans a2
  have d3 := (hb2.cell (p := ⟨g, 3, none⟩) hg).trans a3
  have hg2 := Nat.lt_of_lt_of_le hg hb2.size
  have B2 : Below w.heap.size w w2 := hb1.trans (hb2.mono hb1.size)
  clear a0 a1 a2 a3 hb1 hb2 hg
  go_wp2_with (fail)
  refine (hC.out _).mono ?_
  rintro e w3 ⟨rfl, hb3⟩
  go_wp2_with (fail)
  refine (hD.out _).mono ?_
  rintro e w4 ⟨rfl, hb4⟩
  go_wp2_with (fail)
  refine (hE.out _).mono ?_
  rintro e w5 ⟨rfl, hb5⟩
  go_wp2
  go_ret
  have hb6 := hb3.trans ((hb4.trans (hb5.mono hb4.size)).mono hb3.size)
  exact ⟨rfl, (B2.alloc B2.size _).trans (hb6.mono (by have := B2.size; simp; omega))⟩
#print axioms Try.shown_calls
end Go.Proofs
