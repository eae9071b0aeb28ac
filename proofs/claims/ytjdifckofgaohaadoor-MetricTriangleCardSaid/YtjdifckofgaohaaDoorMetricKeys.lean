/- metric.Keyword and metric.Of of this program, and the document's own. Conditions: the array of keywords holds what the card lays. -/
import Derived.Test.YtjdifckofgaohaaDoorMetricSmall
import Derived.Test.YtjdifckofgaohaaDoorTextTab
namespace Go.Metric
/-- The keywords. -/
def kws : List (List UInt8) := [[69, 88, 80, 76, 73, 67, 73, 84], [69, 85, 67, 95, 50, 68], [67, 69, 73, 76, 95, 50, 68], [77, 65, 78, 95, 50, 68], [77, 65, 88, 95, 50, 68], [65, 84, 84]]
def kw0 : ByteArray := ⟨#[69, 88, 80, 76, 73, 67, 73, 84]⟩
def kw1 : ByteArray := ⟨#[69, 85, 67, 95, 50, 68]⟩
def kw2 : ByteArray := ⟨#[67, 69, 73, 76, 95, 50, 68]⟩
def kw3 : ByteArray := ⟨#[77, 65, 78, 95, 50, 68]⟩
def kw4 : ByteArray := ⟨#[77, 65, 88, 95, 50, 68]⟩
def kw5 : ByteArray := ⟨#[65, 84, 84]⟩
/-- The keyword of a metric. -/
def kwS (k : Int) : ByteArray := if k = 0 then kw0 else if k = 1 then kw1 else if k = 2 then kw2 else if k = 3 then kw3 else if k = 4 then kw4 else if k = 5 then kw5 else ⟨#[]⟩
end Go.Metric
namespace Go.Proofs
open Go.RowKit Go.Shelf Go.Root Go.Metric Go.TextTab
attribute [local go_sem] Oper.semAt_some

/-- The array of keywords holds what the card lays. -/
def Words (w : World) : Prop := TextsAre Tryd.prog w "entrepot/metric.keywords" kws
theorem Words.below {w w' : World} (h : Words w) (hb : Below w.heap.size w w') : Words w' := TextsAre.same h fun g hg => hb.block g hg
theorem named : Tryd.prog.globalNamed "entrepot/metric.keywords" = some 0 := by kernel_rfl
structure Cells (w : World) : Prop where
  c0 : w.cell? ⟨0, 0, none⟩ = some (.string ⟨#[69, 88, 80, 76, 73, 67, 73, 84]⟩)
  c1 : w.cell? ⟨0, 1, none⟩ = some (.string ⟨#[69, 85, 67, 95, 50, 68]⟩)
  c2 : w.cell? ⟨0, 2, none⟩ = some (.string ⟨#[67, 69, 73, 76, 95, 50, 68]⟩)
  c3 : w.cell? ⟨0, 3, none⟩ = some (.string ⟨#[77, 65, 78, 95, 50, 68]⟩)
  c4 : w.cell? ⟨0, 4, none⟩ = some (.string ⟨#[77, 65, 88, 95, 50, 68]⟩)
  c5 : w.cell? ⟨0, 5, none⟩ = some (.string ⟨#[65, 84, 84]⟩)
theorem Words.cells {w : World} (h : Words w) : Cells w :=
  ⟨TextsAre.cell h named rfl, TextsAre.cell h named rfl, TextsAre.cell h named rfl, TextsAre.cell h named rfl, TextsAre.cell h named rfl, TextsAre.cell h named rfl⟩

theorem Tryd.Keyword_calls (k : Int) (w : World) (hT : Words w) :
    Calls Tryd.prog 16 #[.int .i64 k] w fun e w' => e = .returned (.string (kwS k)) ∧ w' = w := by
  obtain ⟨c0, c1, c2, c3, c4, c5⟩ := hT.cells
  by_cases hk : 0 ≤ k ∧ k ≤ 5
  · rcases (show k = 0 ∨ k = 1 ∨ k = 2 ∨ k = 3 ∨ k = 4 ∨ k = 5 by omega) with rfl | rfl | rfl | rfl | rfl | rfl
    all_goals
      go_enter Tryd.func16, Tryd.ntmps16
      go_wp2
      go_ret
      exact ⟨rfl, rfl⟩
  · have hR : kwS k = ⟨#[]⟩ := by unfold kwS; rw [if_neg (by omega), if_neg (by omega), if_neg (by omega), if_neg (by omega), if_neg (by omega), if_neg (by omega)]
    rw [hR]
    by_cases h1 : k < 0
    · have d1 : decide (k < 0) = true := decide_eq_true h1
      go_enter Tryd.func16, Tryd.ntmps16
      go_wp2
      go_ret
      exact ⟨rfl, rfl⟩
    · have d1 : decide (k < 0) = false := decide_eq_false h1
      have h2 : 6 ≤ k := by omega
      have d2 : decide (6 ≤ k) = true := decide_eq_true h2
      go_enter Tryd.func16, Tryd.ntmps16
      go_wp2
      go_ret
      exact ⟨rfl, rfl⟩
theorem Tryd.RKeyword_calls (k : Int) (w : World) :
    Calls Tryd.prog 17 #[.int .i64 k] w fun e w' => e = .returned (.string (kwS k)) ∧ w' = w := by
  by_cases hk : 0 ≤ k ∧ k ≤ 5
  · rcases (show k = 0 ∨ k = 1 ∨ k = 2 ∨ k = 3 ∨ k = 4 ∨ k = 5 by omega) with rfl | rfl | rfl | rfl | rfl | rfl
    all_goals
      go_enter Tryd.func17, Tryd.ntmps17
      go_wp2
      go_ret
      exact ⟨rfl, rfl⟩
  · have hR : kwS k = ⟨#[]⟩ := by unfold kwS; rw [if_neg (by omega), if_neg (by omega), if_neg (by omega), if_neg (by omega), if_neg (by omega), if_neg (by omega)]
    rw [hR]
    have d0 : (k == 0) = false := beq_eq_false_iff_ne.2 (by omega)
    have d1 : (k == 1) = false := beq_eq_false_iff_ne.2 (by omega)
    have d2 : (k == 2) = false := beq_eq_false_iff_ne.2 (by omega)
    have d3 : (k == 3) = false := beq_eq_false_iff_ne.2 (by omega)
    have d4 : (k == 4) = false := beq_eq_false_iff_ne.2 (by omega)
    have d5 : (k == 5) = false := beq_eq_false_iff_ne.2 (by omega)
    go_enter Tryd.func17, Tryd.ntmps17
    go_wp2
    go_ret
    exact ⟨rfl, rfl⟩

theorem text_beq {l : List UInt8} {s : ByteArray} (h : ¬ (⟨l.toArray⟩ : ByteArray) = s) : (l == s.toList) = false := by
  rw [beq_eq_false_iff_ne, Lib.toList_data]
  intro e
  apply h
  subst e
  cases s
  simp
/-- The keyword at a place, as a text. -/
def kwAt : Nat → ByteArray
  | 0 => kw0
  | 1 => kw1
  | 2 => kw2
  | 3 => kw3
  | 4 => kw4
  | _ => kw5
/-- The metric that has a keyword, sought from a place on, the number of places left. -/
def ofFrom (s : ByteArray) : Nat → Nat → Int × Bool
  | _, 0 => (0, false)
  | j, n + 1 => if kwAt j = s then ((j : Int), true) else ofFrom s (j + 1) n
def ofR (s : ByteArray) : Int × Bool := ofFrom s 0 6

theorem ret_of {a : Int} {b : Bool} {x : Int × Bool} (h : x = (a, b)) : Ending.returned (.tuple #[.int .i64 a, .bool b]) = .returned (.tuple #[.int .i64 x.1, .bool x.2]) := by rw [h]

set_option maxRecDepth 100000 in
set_option maxHeartbeats 1000000 in
theorem Tryd.Of_calls (s : ByteArray) (w : World) (hT : Words w) :
    Calls Tryd.prog 12 #[.string s] w fun e w' => e = .returned (.tuple #[.int .i64 (ofR s).1, .bool (ofR s).2]) ∧ w' = w := by
  obtain ⟨c0, c1, c2, c3, c4, c5⟩ := hT.cells
  clear hT
  have i0 : ∀ w, (Instr.index 41 (.agg #[.string ⟨#[69, 88, 80, 76, 73, 67, 73, 84]⟩, .string ⟨#[69, 85, 67, 95, 50, 68]⟩, .string ⟨#[67, 69, 73, 76, 95, 50, 68]⟩, .string ⟨#[77, 65, 78, 95, 50, 68]⟩, .string ⟨#[77, 65, 88, 95, 50, 68]⟩, .string ⟨#[65, 84, 84]⟩]) (.int .i64 0)).run Tryd.prog w = .ok (.string ⟨#[69, 88, 80, 76, 73, 67, 73, 84]⟩) w := fun _ => by kernel_rfl
  have i1 : ∀ w, (Instr.index 41 (.agg #[.string ⟨#[69, 88, 80, 76, 73, 67, 73, 84]⟩, .string ⟨#[69, 85, 67, 95, 50, 68]⟩, .string ⟨#[67, 69, 73, 76, 95, 50, 68]⟩, .string ⟨#[77, 65, 78, 95, 50, 68]⟩, .string ⟨#[77, 65, 88, 95, 50, 68]⟩, .string ⟨#[65, 84, 84]⟩]) (.int .i64 1)).run Tryd.prog w = .ok (.string ⟨#[69, 85, 67, 95, 50, 68]⟩) w := fun _ => by kernel_rfl
  have i2 : ∀ w, (Instr.index 41 (.agg #[.string ⟨#[69, 88, 80, 76, 73, 67, 73, 84]⟩, .string ⟨#[69, 85, 67, 95, 50, 68]⟩, .string ⟨#[67, 69, 73, 76, 95, 50, 68]⟩, .string ⟨#[77, 65, 78, 95, 50, 68]⟩, .string ⟨#[77, 65, 88, 95, 50, 68]⟩, .string ⟨#[65, 84, 84]⟩]) (.int .i64 2)).run Tryd.prog w = .ok (.string ⟨#[67, 69, 73, 76, 95, 50, 68]⟩) w := fun _ => by kernel_rfl
  have i3 : ∀ w, (Instr.index 41 (.agg #[.string ⟨#[69, 88, 80, 76, 73, 67, 73, 84]⟩, .string ⟨#[69, 85, 67, 95, 50, 68]⟩, .string ⟨#[67, 69, 73, 76, 95, 50, 68]⟩, .string ⟨#[77, 65, 78, 95, 50, 68]⟩, .string ⟨#[77, 65, 88, 95, 50, 68]⟩, .string ⟨#[65, 84, 84]⟩]) (.int .i64 3)).run Tryd.prog w = .ok (.string ⟨#[77, 65, 78, 95, 50, 68]⟩) w := fun _ => by kernel_rfl
  have i4 : ∀ w, (Instr.index 41 (.agg #[.string ⟨#[69, 88, 80, 76, 73, 67, 73, 84]⟩, .string ⟨#[69, 85, 67, 95, 50, 68]⟩, .string ⟨#[67, 69, 73, 76, 95, 50, 68]⟩, .string ⟨#[77, 65, 78, 95, 50, 68]⟩, .string ⟨#[77, 65, 88, 95, 50, 68]⟩, .string ⟨#[65, 84, 84]⟩]) (.int .i64 4)).run Tryd.prog w = .ok (.string ⟨#[77, 65, 88, 95, 50, 68]⟩) w := fun _ => by kernel_rfl
  have i5 : ∀ w, (Instr.index 41 (.agg #[.string ⟨#[69, 88, 80, 76, 73, 67, 73, 84]⟩, .string ⟨#[69, 85, 67, 95, 50, 68]⟩, .string ⟨#[67, 69, 73, 76, 95, 50, 68]⟩, .string ⟨#[77, 65, 78, 95, 50, 68]⟩, .string ⟨#[77, 65, 88, 95, 50, 68]⟩, .string ⟨#[65, 84, 84]⟩]) (.int .i64 5)).run Tryd.prog w = .ok (.string ⟨#[65, 84, 84]⟩) w := fun _ => by kernel_rfl
  go_enter Tryd.func12, Tryd.ntmps12
  go_wp2
  clear c0 c1 c2 c3 c4 c5
  go_loop [7] (fun i => ∃ j : Nat, j ≤ 6 ∧ i = .int .i64 (j : Int) ∧ Hid (ofR s = ofFrom s j (6 - j))) (fun i => 6 - (intOf i).toNat)
  case atStart => exact ⟨0, Nat.zero_le _, rfl, rfl⟩
  case round =>
    obtain ⟨j, hj, rfl, hH⟩ := hrel
    by_cases hlt : j < 6
    · obtain ⟨m, hm⟩ : ∃ m, 6 - j = m + 1 := ⟨5 - j, by omega⟩
      have hH2 := hH.out
      rw [hm] at hH2
      simp only [ofFrom] at hH2
      clear hH
      have hm2 : 6 - (j + 1) = m := by omega
      rcases (show j = 0 ∨ j = 1 ∨ j = 2 ∨ j = 3 ∨ j = 4 ∨ j = 5 by omega) with rfl | rfl | rfl | rfl | rfl | rfl
      all_goals
        simp only [kwAt, kw0, kw1, kw2, kw3, kw4, kw5] at hH2
        split at hH2
        · rename_i he
          subst he
          have HH := Lib.hid hH2
          clear hH2 hm hm2
          go_wp2
          go_ret2
          exact ⟨ret_of HH.out, rfl⟩
        · rename_i he
          have hne := text_beq he
          have HH := Lib.hid hH2
          have Hm := Lib.hid hm2
          clear hH2 hm hm2
          go_wp2
          go_round
          case rel =>
            have e := HH.out
            rw [← Hm.out] at e
            first | exact ⟨1, by omega, by go_num, Lib.hid e⟩ | exact ⟨2, by omega, by go_num, Lib.hid e⟩ | exact ⟨3, by omega, by go_num, Lib.hid e⟩ | exact ⟨4, by omega, by go_num, Lib.hid e⟩ | exact ⟨5, by omega, by go_num, Lib.hid e⟩ | exact ⟨6, by omega, by go_num, Lib.hid e⟩
          case measure => simp [intOf]
    · obtain rfl : j = 6 := by omega
      go_wp2
      go_ret2
      exact ⟨ret_of hH.out, rfl⟩
end Go.Proofs
