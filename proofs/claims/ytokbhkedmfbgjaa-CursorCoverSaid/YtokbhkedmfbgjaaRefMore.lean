/- its, and the document's own Same, Blank and Rows of this program, as contracts. Conditions: lists of at most two million lines; a text of at most a million bytes. -/
import Derived.Test.YtokbhkedmfbgjaaRefLines
import Derived.Deep.QuietTactic
import Derived.BigQuiet
namespace Go.Proofs
open Go.RowKit Go.Shelf Go.Cur

theorem HasLines.at {W : World} {g : Nat} {n cap : Nat} {ps : List (Nat × Nat × Nat)} (h : HasLines W (.slice (some ⟨g, 0, none⟩) n cap) ps) {i a b c : Nat} (hi : ps[i]? = some (a, b, c)) :
    g < W.heap.size ∧ W.cell? ⟨g, i * 3, none⟩ = some (.int .i64 (a : Nat)) ∧ W.cell? ⟨g, i * 3 + 1, none⟩ = some (.int .i64 (b : Nat)) ∧ W.cell? ⟨g, i * 3 + 2, none⟩ = some (.int .i64 (c : Nat)) := by
  obtain ⟨ao, cap', e, h⟩ := h
  obtain ⟨g', h1, h2, h3, h4, h5⟩ := h i a b c hi
  cases e
  cases h1
  exact ⟨h2, h3, h4, h5⟩
theorem HasLines.split {W : World} {v : Value} {ps : List (Nat × Nat × Nat)} (h : HasLines W v ps) : (ps = [] ∧ ∃ ao cap, v = .slice ao 0 cap) ∨ (0 < ps.length ∧ ∃ g cap, v = .slice (some ⟨g, 0, none⟩) ps.length cap ∧ g < W.heap.size) := by
  obtain ⟨ao, cap, rfl, h⟩ := h
  cases ps with
  | nil => exact .inl ⟨rfl, ao, cap, rfl⟩
  | cons p ps =>
    obtain ⟨a, b, c⟩ := p
    obtain ⟨g, rfl, h1, _⟩ := h 0 a b c rfl
    exact .inr ⟨by simp, g, cap, rfl, h1⟩

set_option maxRecDepth 100000 in
set_option maxHeartbeats 1000000 in
theorem Try.its_calls (v : Value) (ps : List (Nat × Nat × Nat)) (w : World) (hlen : ps.length ≤ 2000000) (hv : HasLines w v ps) :
    Calls Try.prog 13 #[v] w fun e w' => ∃ v', e = .returned v' ∧ w'.ownsRow w.heap.size 33 3 v' ps.length (lineCells ps) ∧ Below w.heap.size w w' := by
  obtain ⟨i0, hi, hz0, hz1, hz2⟩ := info_parts Try.info33
  rcases hv.split with ⟨rfl, ao, cap, rfl⟩ | ⟨hpos, g, cap, rfl, hg⟩
  · clear hv hlen
    go_enter Try.func13, Try.ntmps13
    go_wp2
    go_loopw [3, 4] (fun v' i wr => i = .int .i64 0 ∧ wr.ownsRow w.heap.size 33 3 v' 0 [] ∧ Below w.heap.size w wr) (fun _ _ _ => 0)
    case atStart => exact ⟨rfl, owns_empty w 33, (Below.refl _ w).alloc (Nat.le_refl _) _⟩
    case round =>
      obtain ⟨rfl, hown, hB⟩ := hrel
      go_wp2
      go_ret
      exact ⟨_, rfl, hown, hB⟩
  · have HV := Lib.hid hv
    have HI := Lib.hid hi
    clear hv hi
    go_enter Try.func13, Try.ntmps13
    go_wp2
    go_loopw [3, 4] (fun v' i wr => ∃ k : Nat, k ≤ ps.length ∧ i = .int .i64 (k : Int) ∧ wr.ownsRow w.heap.size 33 3 v' k (lineCells (ps.take k)) ∧ Below w.heap.size w wr) (fun _ i _ => ps.length - (intOf i).toNat)
    case atStart => exact ⟨0, Nat.zero_le _, rfl, owns_empty w 33, (Below.refl _ w).alloc (Nat.le_refl _) _⟩
    case round =>
      obtain ⟨k, hk, rfl, hown, hB⟩ := hrel
      have hB1 : w.heap.size ≤ wr.heap.size := hB.size
      have hml : k + 1 ≤ maxLen := by unfold maxLen; omega
      have hml2 : (k + 1) * 24 ≤ 140737488355328 := by omega
      by_cases hlt : k < ps.length
      · obtain ⟨⟨a, b, c⟩, hp⟩ : ∃ p, ps[k]? = some p := ⟨_, List.getElem?_eq_getElem hlt⟩
        obtain ⟨_, x0, x1, x2⟩ := HV.out.at hp
        replace x0 := (hB.cell (p := ⟨g, k * 3, none⟩) hg).trans x0
        replace x1 := (hB.cell (p := ⟨g, k * 3 + 1, none⟩) hg).trans x1
        replace x2 := (hB.cell (p := ⟨g, k * 3 + 2, none⟩) hg).trans x2
        have HT := Lib.hid (take_get hp)
        clear hp
        go_wp2_with (at_builtin; refine wpList_append_own _ rfl _ _ 25 rfl w.heap.size 33 i0 (.agg #[.int .i64 0, .int .i64 0, .int .i64 0]) 3 24 Try.underlying25 HI.out hz0 hz1 hz2 rfl (by decide) _ _ _ rfl (hown.alloc _) ⟨wr.heap.size, 0, none⟩ 1 1 [.int .i64 (a : Nat), .int .i64 (b : Nat), .int .i64 (c : Nat)] rfl rfl (cells_new wr #[.int .i64 (a : Nat), .int .i64 (b : Nat), .int .i64 (c : Nat)] 33) (by simp [Value.oneCell']) hml hml2 (by simp; omega) ?_; intro v' w1 hown' hgrow _)
        go_roundw
        case rel => exact ⟨k + 1, by omega, by go_num, by rw [HT.out, lineCells_snoc]; exact hown', grown_below hB hB1 hown hgrow⟩
        case measure => simp [intOf]; omega
      · have hkk : k = ps.length := by omega
        subst hkk
        rw [List.take_length] at hown
        have HO := Lib.hid hown
        clear hown
        go_wp2
        go_ret
        exact ⟨_, rfl, HO.out, hB⟩

set_option maxRecDepth 100000 in
set_option maxHeartbeats 1000000 in
theorem Try.Same_calls (v u : Value) (ps : List (Nat × Nat × Nat)) (w : World) (hlen : ps.length ≤ 2000000) (hv : HasLines w v ps) (hu : HasLines w u ps) :
    Calls Try.prog 12 #[v, u] w fun e w' => e = .returned (.bool true) ∧ Below w.heap.size w w' := by
  have hmx : Try.prog.follows .mixedOrders = true := by kernel_rfl
  rcases hv.split with ⟨rfl, ao, cap, rfl⟩ | ⟨hpos, g, cap, rfl, hg⟩
  · rcases hu.split with ⟨_, ao', cap', rfl⟩ | ⟨hpos, _⟩
    · clear hv hu hlen
      go_enter Try.func12, Try.ntmps12
      go_wp2
      go_loopw [5] (fun i wr => i = .int .i64 0 ∧ Below w.heap.size w wr) (fun _ _ => 0)
      case atStart => exact ⟨rfl, Below.refl _ w⟩
      case round =>
        obtain ⟨rfl, hB⟩ := hrel
        go_wp2
        go_ret
        exact ⟨rfl, hB⟩
    · simp at hpos
  · rcases hu.split with ⟨rfl, _⟩ | ⟨_, g', cap', rfl, hg'⟩
    · simp at hpos
    · have HV := Lib.hid hv
      have HU := Lib.hid hu
      clear hv hu
      go_enter Try.func12, Try.ntmps12
      go_wp2
      go_loopw [5] (fun i wr => ∃ k : Nat, k ≤ ps.length ∧ i = .int .i64 (k : Int) ∧ Below w.heap.size w wr) (fun i _ => ps.length - (intOf i).toNat)
      case atStart => exact ⟨0, Nat.zero_le _, rfl, Below.refl _ w⟩
      case round =>
        obtain ⟨k, hk, rfl, hB⟩ := hrel
        by_cases hlt : k < ps.length
        · obtain ⟨⟨a, b, c⟩, hp⟩ : ∃ p, ps[k]? = some p := ⟨_, List.getElem?_eq_getElem hlt⟩
          obtain ⟨_, x0, x1, x2⟩ := HV.out.at hp
          obtain ⟨_, y0, y1, y2⟩ := HU.out.at hp
          replace x0 := (hB.cell (p := ⟨g, k * 3, none⟩) hg).trans x0
          replace x1 := (hB.cell (p := ⟨g, k * 3 + 1, none⟩) hg).trans x1
          replace x2 := (hB.cell (p := ⟨g, k * 3 + 2, none⟩) hg).trans x2
          replace y0 := (hB.cell (p := ⟨g', k * 3, none⟩) hg').trans y0
          replace y1 := (hB.cell (p := ⟨g', k * 3 + 1, none⟩) hg').trans y1
          replace y2 := (hB.cell (p := ⟨g', k * 3 + 2, none⟩) hg').trans y2
          clear hp
          go_wp2
          go_quiet (fail)
          go_wp2
          go_roundw
          case rel => exact ⟨k + 1, by omega, by go_num, hB.trans ⟨rfl, rfl, rfl, Nat.le_refl _, fun _ _ => rfl⟩⟩
          case measure => simp [intOf]; omega
        · have hkk : k = ps.length := by omega
          subst hkk
          go_wp2
          go_ret
          exact ⟨rfl, hB⟩
#print axioms Try.its_calls
#print axioms Try.Same_calls
end Go.Proofs
