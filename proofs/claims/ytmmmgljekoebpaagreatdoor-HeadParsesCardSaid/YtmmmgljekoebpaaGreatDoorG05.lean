/- What entrepotlaw01.shown answers: true. No conditions. -/
import Derived.Test.YtmmmgljekoebpaaGreatDoorG04
import Derived.Deep.QuietTactic
import Derived.BigQuiet
import Derived.RowKit
import Derived.Test.YtmmmgljekoebpaaGreatDoorProg
import Derived.WalkKit
import Derived.Lib.Hide
import Derived.Deep.DrawnRows
import Derived.Deep.RegionHeld3
import Derived.RangeFuncRecord
import Derived.Test.YtmmmgljekoebpaaGreatDoorShelf
import Derived.Lib.LaidTab
import Derived.Lib.ItoaLen
import Derived.Laws.IdiomStrings
import Derived.Deep.LoopGhost
import Derived.Test.YtmmmgljekoebpaaGreatDoorG02
import Derived.Deep.Cut
import Derived.Deep.CutRange
import Derived.Deep.CutBlock
namespace Go.Proofs
open Go.RowKit Go.Shelf Go.Cur

/-- v is a slice that holds the lines ps in W. -/
def HasLines (W : World) (v : Value) (ps : List (Nat × Nat × Nat)) : Prop :=
  ∃ (ao : Option Addr) (cap : Nat), v = .slice ao ps.length cap ∧ ∀ (i a b c : Nat), ps[i]? = some (a, b, c) → ∃ g, ao = some ⟨g, 0, none⟩ ∧ g < W.heap.size ∧
    W.cell? ⟨g, i * 3, none⟩ = some (.int .i64 (a : Nat)) ∧ W.cell? ⟨g, i * 3 + 1, none⟩ = some (.int .i64 (b : Nat)) ∧ W.cell? ⟨g, i * 3 + 2, none⟩ = some (.int .i64 (c : Nat))

theorem lineCells_get : ∀ {ps : List (Nat × Nat × Nat)} {i a b c : Nat}, ps[i]? = some (a, b, c) →
    (lineCells ps)[i * 3]? = some (.int .i64 (a : Nat)) ∧ (lineCells ps)[i * 3 + 1]? = some (.int .i64 (b : Nat)) ∧ (lineCells ps)[i * 3 + 2]? = some (.int .i64 (c : Nat))
  | [], i, a, b, c, h => by simp at h
  | p :: ps, 0, a, b, c, h => by
    have e : p = (a, b, c) := by simpa using h
    subst e
    exact ⟨rfl, rfl, rfl⟩
  | p :: ps, i + 1, a, b, c, h => by
    have h' : ps[i]? = some (a, b, c) := by simpa using h
    have ih := lineCells_get h'
    have e : ∀ j, (lineCells (p :: ps))[(i + 1) * 3 + j]? = (lineCells ps)[i * 3 + j]? := fun j => by
      rw [show (i + 1) * 3 + j = (i * 3 + j) + 1 + 1 + 1 from by omega]; rfl
    exact ⟨(e 0).trans ih.1, (e 1).trans ih.2.1, (e 2).trans ih.2.2⟩

theorem hasLines_of_owns {W : World} {base : Nat} {e : TypeId} {v : Value} {ps : List (Nat × Nat × Nat)} (h : W.ownsRow base e 3 v ps.length (lineCells ps)) : HasLines W v ps := by
  rcases h.2 with ⟨rfl, h0⟩ | ⟨g, cap, cur, rfl, h1, h2, _⟩
  · refine ⟨none, 0, by rw [h0], fun i a b c hi => ?_⟩
    have := (List.getElem?_eq_some_iff.1 hi).1
    omega
  · refine ⟨_, cap, rfl, fun i a b c hi => ⟨g, rfl, (Array.getElem?_eq_some_iff.1 h2).1, ?_⟩⟩
    have hc := World.ownsRow.cells h (g := g) rfl
    have hl := lineCells_get hi
    have e : ∀ j, ((⟨g, 0, none⟩ : Addr).add j) = ⟨g, j, none⟩ := fun j => by
      unfold Addr.add
      split
      · rename_i h0; rw [h0]
      · simp
    have h3 := hc _ _ hl.1
    have h4 := hc _ _ hl.2.1
    have h5 := hc _ _ hl.2.2
    rw [e] at h3 h4 h5
    exact ⟨h3, h4, h5⟩

theorem HasLines.below {W W' : World} {v : Value} {ps : List (Nat × Nat × Nat)} (h : HasLines W v ps) {n₀ : Nat} (hb : Below n₀ W W') (hn : W.heap.size ≤ n₀) : HasLines W' v ps := by
  obtain ⟨ao, cap, rfl, h⟩ := h
  refine ⟨ao, cap, rfl, fun i a b c hi => ?_⟩
  obtain ⟨g, h1, h2, h3, h4, h5⟩ := h i a b c hi
  have := hb.size
  exact ⟨g, h1, by omega, (hb.cell (p := ⟨g, _, none⟩) (by simp; omega)).trans h3, (hb.cell (p := ⟨g, _, none⟩) (by simp; omega)).trans h4, (hb.cell (p := ⟨g, _, none⟩) (by simp; omega)).trans h5⟩

def sA : ByteArray := ⟨#[97, 98, 13, 10, 99]⟩
def sB : ByteArray := ⟨#[32, 10, 9, 10, 120]⟩


theorem Tryz.RowsB (w : World) : Calls Tryz.prog 27 #[.string ⟨#[32, 10, 9, 10, 120]⟩] w fun e w' => ∃ ao cap, e = .returned (.slice ao 1 cap) ∧ Below w.heap.size w w' := by
  refine (Tryz.Rows_calls sB w (by decide)).mono ?_
  rintro e w' ⟨v, rfl, h1, h2⟩
  have hl : rowsOf sB.data.toList = [(4, 5, 5)] := by decide
  rw [hl] at h1
  obtain ⟨ao, cap, rfl, h3⟩ := hasLines_of_owns h1
  exact ⟨ao, cap, rfl, h2⟩


end Go.Proofs
/- The document's own Lines of this program, as a contract. Conditions: a text of at most a million bytes. -/
namespace Go.Cur
theorem takeWhile_all {α : Type} {p : α → Bool} {l r : List α} (h : ∀ x ∈ l, p x = true) : (l ++ r).takeWhile p = l ++ r.takeWhile p := by
  induction l with
  | nil => rfl
  | cons x l ih =>
    rw [List.cons_append, List.takeWhile_cons, if_pos (h x (by simp)), ih (fun y hy => h y (by simp [hy]))]; rfl
theorem lines_split {l : List UInt8} {d : List (Nat × Nat)} {a : Nat} (h : spans l = d ++ [(a, l.length)]) (hd : ∀ p ∈ d, p.1 < l.length) : lines l = d.map (lineAt l) ++ if a = l.length then [] else [(a, l.length, l.length)] := by
  unfold lines
  rw [h, takeWhile_all (fun p hp => by have := hd p hp; simp; omega), List.map_append]
  congr 1
  by_cases ha : a = l.length
  · simp [ha]
  · have hb : (a != l.length) = true := by rw [bne_iff_ne]; exact ha
    simp [List.takeWhile, ha, hb, lineAt]
theorem split_len {l : List UInt8} {d r : List (Nat × Nat)} (h : spans l = d ++ r) : d.length ≤ l.length + 1 := by
  have h1 := spans_len l 0 0
  have h2 : (spans l).length = d.length + r.length := by rw [h, List.length_append]
  simp only [spans] at h2
  omega
end Go.Cur
namespace Go.Proofs
open Go.RowKit Go.Shelf Go.Cur

theorem Tryz.info52 : (Tryz.prog.info? 52).map (fun i => (i.zero, i.size, i.bytes)) = some (some (.agg #[.int .i64 0, .int .i64 0, .int .i64 0]), 3, 24) := by kernel_rfl
theorem owns_empty (w : World) (e : TypeId) : (w.alloc (.cells #[] e)).ownsRow w.heap.size e 3 (.slice (some ⟨w.heap.size, 0, none⟩) 0 0) 0 [] :=
  ⟨rfl, .inr ⟨w.heap.size, 0, #[], rfl, Nat.le_refl _, World.alloc_heap_new w _, Nat.le_refl _, Nat.zero_le _, rfl, rfl⟩⟩

theorem grown_below {n₀ : Nat} {w wr w1 : World} {tmp : Obj} {v : Value} {e : TypeId} {size k : Nat} {xs : List Value} (hB : Below n₀ w wr) (hn : n₀ ≤ wr.heap.size) (hown : wr.ownsRow n₀ e size v k xs) (hgrow : (wr.alloc tmp).grownBy w1 v.ownBlock) : Below n₀ w w1 :=
  (hB.alloc hn tmp).grown hgrow (by simp; omega) (fun j e => (hown.lt j e).1)

set_option maxRecDepth 100000 in
set_option maxHeartbeats 2000000 in
theorem Tryz.rLines_calls (s : ByteArray) (w : World) (hs : s.size ≤ 1000000) :
    Calls Tryz.prog 33 #[.string s] w fun e w' => ∃ v, e = .returned v ∧ w'.ownsRow w.heap.size 52 3 v (lines s.data.toList).length (lineCells (lines s.data.toList)) ∧ Below w.heap.size w w' := by
  obtain ⟨i0, hi, hz0, hz1, hz2⟩ := info_parts Tryz.info52
  have hl : s.data.toList.length = s.size := by simp
  have HL := Lib.hid hl
  clear hl
  go_enter Tryz.func33, Tryz.ntmps33
  go_wp2
  go_loopw [3, 4, 5] (fun v f i wr => ∃ (k a : Nat) (d : List (Nat × Nat)), wr.ownsRow w.heap.size 52 3 v d.length (lineCells (d.map (lineAt s.data.toList))) ∧ f = .int .i64 (a : Int) ∧ i = .int .i64 (k : Int) ∧ k ≤ s.size ∧ a ≤ k ∧ spans s.data.toList = d ++ spansFrom (s.data.toList.drop k) k a ∧ (∀ p ∈ d, p.1 < s.size) ∧ Below w.heap.size w wr)
    (fun _ _ i _ => s.size - (intOf i).toNat)
  case atStart =>
    exact ⟨0, 0, [], owns_empty w 52, rfl, rfl, Nat.zero_le _, Nat.le_refl _, rfl, (fun p hp => by cases hp), (Below.refl _ w).alloc (Nat.le_refl _) _⟩
  case round =>
    obtain ⟨k, a, d, hown, rfl, rfl, hk, hak, hsp, hd, hB⟩ := hrel
    have hdl := split_len hsp
    rw [HL.out] at hdl
    have hml : d.length + 1 ≤ maxLen := by unfold maxLen; omega
    have hml2 : (d.length + 1) * 24 ≤ 140737488355328 := by omega
    have hB1 : w.heap.size ≤ wr.heap.size := hB.size
    by_cases hlt : k < s.size
    · by_cases hb : s[k]'hlt = 10
      · have hbb : (((s[k]'hlt).toNat : Int) != 10) = false := by rw [hb]; rfl
        have hg := list_get s k hlt
        rw [hb] at hg
        rw [spans_feed _ _ _ hg] at hsp
        have hsp2 : spans s.data.toList = (d ++ [(a, k)]) ++ spansFrom (s.data.toList.drop (k + 1)) (k + 1) (k + 1) := by rw [hsp, List.append_assoc]; rfl
        have hd2 : ∀ p ∈ d ++ [(a, k)], p.1 < s.size := fun p hp => by
          rcases List.mem_append.1 hp with h | h
          · exact hd p h
          · simp at h; subst h; simp only; omega
        have HS := Lib.hid hsp2
        have HD := Lib.hid hd2
        have hne : ¬ k = s.size := by omega
        by_cases h13 : a < k ∧ s.get! (k - 1) = 13
        · have hka : decide ((a : Int) < (k : Int)) = true := decide_eq_true (by omega)
          have hka2 : decide (a < k) = true := decide_eq_true h13.1
          have hk1 : k - 1 < s.size := by omega
          have hb1 : 0 ≤ (k : Int) - 1 := by omega
          have hb2 : ((k : Int) - 1).toNat = k - 1 := by omega
          have hg1 := get_of s (k - 1) hk1
          rw [h13.2] at hg1
          have hc13 : (((s[k - 1]'hk1).toNat : Int) == 13) = true := by rw [← hg1]; rfl
          have hla : lineAt s.data.toList (a, k) = (a, k - 1, k + 1) := by
            simp only [lineAt]; rw [if_neg (by rw [HL.out]; exact hne), list_get s (k - 1) hk1, ← hg1, if_pos ⟨h13.1, rfl⟩]
          have hcells : lineCells ((d ++ [(a, k)]).map (lineAt s.data.toList)) = lineCells (d.map (lineAt s.data.toList)) ++ [.int .i64 (a : Nat), .int .i64 ((k : Int) - 1), .int .i64 ((k : Int) + 1)] := by
            rw [List.map_append, List.map_cons, List.map_nil, hla, lineCells_snoc]
            congr 1
            rw [show ((k - 1 : Nat) : Int) = (k : Int) - 1 from by omega]; rfl
          have HC := Lib.hid hcells
          have HI := Lib.hid hi
          clear hsp hsp2 hd hd2 hg hb hla hcells hg1 h13 hne hi hdl
          go_wp2_with (at_builtin; refine wpList_append_own _ rfl _ _ 46 rfl w.heap.size 52 i0 (.agg #[.int .i64 0, .int .i64 0, .int .i64 0]) 3 24 Tryz.underlying46 HI.out hz0 hz1 hz2 rfl (by decide) _ _ _ rfl (hown.alloc _) ⟨wr.heap.size, 0, none⟩ 1 1 [.int .i64 (a : Nat), .int .i64 ((k : Int) - 1), .int .i64 ((k : Int) + 1)] rfl rfl (curcells_new wr #[.int .i64 (a : Nat), .int .i64 ((k : Int) - 1), .int .i64 ((k : Int) + 1)] 52) (by simp [Value.oneCell']) hml hml2 (by simp; omega) ?_; intro v' w1 hown' hgrow _)
          go_roundw
          case rel => exact ⟨k + 1, k + 1, d ++ [(a, k)], by rw [List.length_append, HC.out]; exact hown', by go_num, by go_num, by omega, Nat.le_refl _, HS.out, HD.out, grown_below hB hB1 hown hgrow⟩
          case measure => simp [intOf]; omega
        · have hla : lineAt s.data.toList (a, k) = (a, k, k + 1) := by
            simp only [lineAt]
            rw [if_neg (by rw [HL.out]; exact hne), if_neg]
            rintro ⟨q1, q2⟩
            rw [list_get s (k - 1) (by omega)] at q2
            exact h13 ⟨q1, by rw [get_of s (k - 1) (by omega)]; exact Option.some.inj q2⟩
          have hcells : lineCells ((d ++ [(a, k)]).map (lineAt s.data.toList)) = lineCells (d.map (lineAt s.data.toList)) ++ [.int .i64 (a : Nat), .int .i64 (k : Int), .int .i64 ((k : Int) + 1)] := by
            rw [List.map_append, List.map_cons, List.map_nil, hla, lineCells_snoc]; rfl
          have HC := Lib.hid hcells
          have HI := Lib.hid hi
          by_cases hka0 : a < k
          · have hka : decide ((a : Int) < (k : Int)) = true := decide_eq_true (by omega)
            have hka2 : decide (a < k) = true := decide_eq_true hka0
            have hk1 : k - 1 < s.size := by omega
            have hb1 : 0 ≤ (k : Int) - 1 := by omega
            have hb2 : ((k : Int) - 1).toNat = k - 1 := by omega
            have hc13 : (((s[k - 1]'hk1).toNat : Int) == 13) = false := by
              rw [beq_eq_false_iff_ne]
              intro e
              exact h13 ⟨hka0, by
                rw [get_of s (k - 1) hk1]
                exact UInt8.toNat_inj.1 (by have e' : (s[k - 1]'hk1).toNat = 13 := by omega
                                            exact e')⟩
            clear hsp hsp2 hd hd2 hg hb hla hcells h13 hne hi hdl
            go_wp2_with (at_builtin; refine wpList_append_own _ rfl _ _ 46 rfl w.heap.size 52 i0 (.agg #[.int .i64 0, .int .i64 0, .int .i64 0]) 3 24 Tryz.underlying46 HI.out hz0 hz1 hz2 rfl (by decide) _ _ _ rfl (hown.alloc _) ⟨wr.heap.size, 0, none⟩ 1 1 [.int .i64 (a : Nat), .int .i64 ((k : Int)), .int .i64 ((k : Int) + 1)] rfl rfl (curcells_new wr #[.int .i64 (a : Nat), .int .i64 ((k : Int)), .int .i64 ((k : Int) + 1)] 52) (by simp [Value.oneCell']) hml hml2 (by simp; omega) ?_; intro v' w1 hown' hgrow _)
            go_roundw
            case rel => exact ⟨k + 1, k + 1, d ++ [(a, k)], by rw [List.length_append, HC.out]; exact hown', by go_num, by go_num, by omega, Nat.le_refl _, HS.out, HD.out, grown_below hB hB1 hown hgrow⟩
            case measure => simp [intOf]; omega
          · have hka : decide ((a : Int) < (k : Int)) = false := decide_eq_false (by omega)
            have hka2 : decide (a < k) = false := decide_eq_false hka0
            clear hsp hsp2 hd hd2 hg hb hla hcells h13 hne hi hdl
            go_wp2_with (at_builtin; refine wpList_append_own _ rfl _ _ 46 rfl w.heap.size 52 i0 (.agg #[.int .i64 0, .int .i64 0, .int .i64 0]) 3 24 Tryz.underlying46 HI.out hz0 hz1 hz2 rfl (by decide) _ _ _ rfl (hown.alloc _) ⟨wr.heap.size, 0, none⟩ 1 1 [.int .i64 (a : Nat), .int .i64 ((k : Int)), .int .i64 ((k : Int) + 1)] rfl rfl (curcells_new wr #[.int .i64 (a : Nat), .int .i64 ((k : Int)), .int .i64 ((k : Int) + 1)] 52) (by simp [Value.oneCell']) hml hml2 (by simp; omega) ?_; intro v' w1 hown' hgrow _)
            go_roundw
            case rel => exact ⟨k + 1, k + 1, d ++ [(a, k)], by rw [List.length_append, HC.out]; exact hown', by go_num, by go_num, by omega, Nat.le_refl _, HS.out, HD.out, grown_below hB hB1 hown hgrow⟩
            case measure => simp [intOf]; omega
      · have hbb : (((s[k]'hlt).toNat : Int) != 10) = true := by
          rw [bne_iff_ne]
          intro e
          exact hb (UInt8.toNat_inj.1 (by have e' : (s[k]'hlt).toNat = 10 := by omega
                                          exact e'))
        have hsp2 : spans s.data.toList = d ++ spansFrom (s.data.toList.drop (k + 1)) (k + 1) a := by
          rw [hsp, spans_sign _ a 1 k (by rw [HL.out]; omega) (fun j h1 h2 => by
            have e : j = k := by omega
            subst e
            rw [list_get s j hlt]
            intro e
            exact hb (Option.some.inj e))]
        have HS := Lib.hid hsp2
        have HD := Lib.hid hd
        clear hsp hsp2 hd hb
        go_wp2
        go_roundw
        case rel => exact ⟨k + 1, a, d, hown, rfl, by go_num, by omega, by omega, HS.out, HD.out, hB⟩
        case measure => simp [intOf]; omega
    · have hks : k = s.size := by omega
      subst hks
      rw [← HL.out, List.drop_length] at hsp
      have hfin := lines_split (a := a) hsp (by rw [HL.out]; exact hd)
      rw [HL.out] at hfin
      by_cases ha : a = s.size
      · rw [if_pos ha, List.append_nil] at hfin
        have HF := Lib.hid hfin
        have hda : decide (a < s.size) = false := decide_eq_false (by omega)
        have hda2 : decide ((a : Int) < (s.size : Int)) = false := decide_eq_false (by omega)
        clear hsp hd hfin ha
        go_wp2
        go_ret
        refine ⟨_, rfl, ?_, hB⟩
        rw [HF.out, List.length_map]
        exact hown
      · rw [if_neg ha] at hfin
        have hda : decide (a < s.size) = true := decide_eq_true (by omega)
        have hda2 : decide ((a : Int) < (s.size : Int)) = true := decide_eq_true (by omega)
        have HF := Lib.hid hfin
        have HI := Lib.hid hi
        clear hsp hd hfin ha hi hdl
        go_wp2_with (at_builtin; refine wpList_append_own _ rfl _ _ 46 rfl w.heap.size 52 i0 (.agg #[.int .i64 0, .int .i64 0, .int .i64 0]) 3 24 Tryz.underlying46 HI.out hz0 hz1 hz2 rfl (by decide) _ _ _ rfl (hown.alloc _) ⟨wr.heap.size, 0, none⟩ 1 1 [.int .i64 (a : Nat), .int .i64 (s.size : Nat), .int .i64 (s.size : Nat)] rfl rfl (curcells_new wr #[.int .i64 (a : Nat), .int .i64 (s.size : Nat), .int .i64 (s.size : Nat)] 52) (by simp [Value.oneCell']) hml hml2 (by simp; omega) ?_; intro v' w1 hown' hgrow _)
        go_ret
        refine ⟨_, rfl, ?_, grown_below hB hB1 hown hgrow⟩
        rw [HF.out, lineCells_snoc, List.length_append, List.length_map]
        exact hown'
#print axioms Tryz.rLines_calls
end Go.Proofs
/- its, and the document's own Same, Blank and Rows of this program, as contracts. Conditions: lists of at most two million lines; a text of at most a million bytes. -/
namespace Go.Proofs
open Go.RowKit Go.Shelf Go.Cur

theorem HasLines.at {W : World} {g : Nat} {n cap : Nat} {ps : List (Nat × Nat × Nat)} (h : HasLines W (.slice (some ⟨g, 0, none⟩) n cap) ps) {i a b c : Nat} (hi : ps[i]? = some (a, b, c)) :
    g < W.heap.size ∧ W.cell? ⟨g, i * 3, none⟩ = some (.int .i64 (a : Nat)) ∧ W.cell? ⟨g, i * 3 + 1, none⟩ = some (.int .i64 (b : Nat)) ∧ W.cell? ⟨g, i * 3 + 2, none⟩ = some (.int .i64 (c : Nat)) := by
  obtain ⟨ao, cap', e, h⟩ := h
  obtain ⟨g', h1, h2, h3, h4, h5⟩ := h i a b c hi
  cases e
  cases h1
  exact ⟨h2, h3, h4, h5⟩
theorem HasLines.split {W : World} {v : Value} {ps : List (Nat × Nat × Nat)} (h : HasLines W v ps) : (ps = [] ∧ ∃ ao cap, v = .slice ao 0 cap) ∨ (0 < ps.length ∧ ∃ g cap, v = .slice (some ⟨g, 0, none⟩) ps.length cap ∧ g < W.heap.size) := by
  obtain ⟨ao, cap, rfl, h⟩ := h
  cases ps with
  | nil => exact .inl ⟨rfl, ao, cap, rfl⟩
  | cons p ps =>
    obtain ⟨a, b, c⟩ := p
    obtain ⟨g, rfl, h1, _⟩ := h 0 a b c rfl
    exact .inr ⟨by simp, g, cap, rfl, h1⟩


end Go.Proofs
/- The document's own Blank and Rows of this program, as contracts. Conditions: a text of at most a million bytes; a part that lies in it. -/
namespace Go.Cur
theorem cutL_step {l : List UInt8} {k b : Nat} {c : UInt8} (hk : k < b) (hc : l[k]? = some c) : blankL (cutL l k b) = ((c == 32 || c == 9) && blankL (cutL l (k + 1) b)) := by
  obtain ⟨hl, rfl⟩ := List.getElem?_eq_some_iff.1 hc
  unfold cutL
  rw [List.extract_eq_take_drop, List.extract_eq_take_drop, List.drop_eq_getElem_cons hl, show b - k = (b - (k + 1)) + 1 from by omega, List.take_succ_cons]
  rfl
theorem cutL_end (l : List UInt8) (b : Nat) : blankL (cutL l b b) = true := by
  unfold cutL
  rw [List.extract_eq_take_drop, Nat.sub_self, List.take_zero]; rfl
end Go.Cur
namespace Go.Proofs
open Go.RowKit Go.Shelf Go.Cur

set_option maxRecDepth 100000 in
set_option maxHeartbeats 1000000 in
theorem Tryz.rBlank_calls (s : ByteArray) (a b c : Nat) (w : World) (hs : s.size ≤ 1000000) (hab : a ≤ b) (hbl : b ≤ s.size) :
    Calls Tryz.prog 34 #[.string s, .agg #[.int .i64 (a : Nat), .int .i64 (b : Nat), .int .i64 (c : Nat)]] w fun e w' => e = .returned (.bool (blankL (cutL s.data.toList a b))) ∧ Below w.heap.size w w' := by
  go_enter Tryz.func34, Tryz.ntmps34
  go_wp2
  go_loop [5] (fun v => ∃ k : Nat, a ≤ k ∧ k ≤ b ∧ v = .int .i64 (k : Int) ∧ blankL (cutL s.data.toList a b) = blankL (cutL s.data.toList k b)) (fun v => b - (intOf v).toNat)
  case atStart => exact ⟨a, Nat.le_refl _, hab, rfl, rfl⟩
  case round =>
    obtain ⟨k, hak, hkb, rfl, hbk⟩ := hrel
    have hB : Below w.heap.size w (w.alloc (Obj.cells #[Value.int IntKind.i64 (a : Nat), Value.int IntKind.i64 (b : Nat), Value.int IntKind.i64 (c : Nat)] 52)) := (Below.refl _ w).alloc (Nat.le_refl _) _
    by_cases hlt : k < b
    · have hks : k < s.size := by omega
      rw [cutL_step hlt (list_get s k hks)] at hbk
      by_cases hb : (s[k]'hks == 32 || s[k]'hks == 9) = true
      · rw [hb, Bool.true_and] at hbk
        have Hb := Lib.hid hbk
        have hpart : (((s[k]'hks).toNat : Int) != 32) = false ∨ ((((s[k]'hks).toNat : Int) != 32) = true ∧ (((s[k]'hks).toNat : Int) != 9) = false) := by
          by_cases h1 : s[k]'hks = 32
          · exact .inl (by rw [h1]; rfl)
          · have h2 : s[k]'hks = 9 := by
              rw [Bool.or_eq_true, beq_iff_eq, beq_iff_eq] at hb
              exact hb.resolve_left h1
            exact .inr ⟨by rw [h2]; rfl, by rw [h2]; rfl⟩
        clear hbk hb
        rcases hpart with h32 | ⟨h32, h9⟩
        all_goals
          go_wp2
          go_round
          case rel => exact ⟨k + 1, by omega, by omega, by go_num, Hb.out⟩
          case measure => simp [intOf]; omega
      · have hb' : (s[k]'hks == 32 || s[k]'hks == 9) = false := by simpa using hb
        rw [hb', Bool.false_and] at hbk
        have Hb := Lib.hid hbk
        rw [Bool.or_eq_false_iff, beq_eq_false_iff_ne, beq_eq_false_iff_ne] at hb'
        have h32 : (((s[k]'hks).toNat : Int) != 32) = true := by
          rw [bne_iff_ne]
          intro e
          exact hb'.1 (UInt8.toNat_inj.1 (by have e' : (s[k]'hks).toNat = 32 := by omega
                                             exact e'))
        have h9 : (((s[k]'hks).toNat : Int) != 9) = true := by
          rw [bne_iff_ne]
          intro e
          exact hb'.2 (UInt8.toNat_inj.1 (by have e' : (s[k]'hks).toNat = 9 := by omega
                                             exact e'))
        clear hbk hb hb'
        go_wp2
        go_ret
        rw [Hb.out]
        exact ⟨rfl, hB⟩
    · have hkk : k = b := by omega
      subst hkk
      rw [cutL_end] at hbk
      have Hb := Lib.hid hbk
      clear hbk
      go_wp2
      go_ret
      rw [Hb.out]
      exact ⟨rfl, hB⟩

theorem ownsRow_base {w : World} {base base' : Nat} {e : TypeId} {size : Nat} {v : Value} {k : Nat} {xs : List Value} (h : w.ownsRow base e size v k xs) (hb : base' ≤ base) : w.ownsRow base' e size v k xs := by
  refine ⟨h.1, h.2.imp id ?_⟩
  rintro ⟨g, cap, cur, h1, h2, h3⟩
  exact ⟨g, cap, cur, h1, Nat.le_trans hb h2, h3⟩
/-- A list of lines that is as it was begun, or lies in new memory. -/
def OwnOr (b0 b1 : Nat) (wr : World) (v : Value) (q : List (Nat × Nat × Nat)) : Prop := (q = [] ∧ v = .slice (some ⟨b0, 0, none⟩) 0 0) ∨ wr.ownsRow b1 52 3 v q.length (lineCells q)

set_option maxRecDepth 100000 in
set_option maxHeartbeats 1000000 in
theorem Tryz.rRows_calls (s : ByteArray) (w : World) (hs : s.size ≤ 1000000) :
    Calls Tryz.prog 12 #[.string s] w fun e w' => ∃ v, e = .returned v ∧ w'.ownsRow w.heap.size 52 3 v (rowsOf s.data.toList).length (lineCells (rowsOf s.data.toList)) ∧ Below w.heap.size w w' := by
  obtain ⟨i0, hi, hz0, hz1, hz2⟩ := info_parts Tryz.info52
  have HI := Lib.hid hi
  have hln := lines_len s
  clear hi
  go_enter Tryz.func12, Tryz.ntmps12
  go_wp2_with (go_at_call 33; refine (Tryz.rLines_calls s _ hs).mono ?_; rintro e w1 ⟨v, rfl, h1, h2⟩)
  have hv := hasLines_of_owns h1
  have hB1 : Below w.heap.size w w1 := (((Below.refl _ w).alloc (Nat.le_refl _) (.cells #[] 52)).trans (h2.mono (by simp)))
  have hown1 : w1.ownsRow w.heap.size 52 3 (.slice (some ⟨w.heap.size, 0, none⟩) 0 0) 0 [] := ownsRow_below (owns_empty w 52) h2 (Nat.le_refl _)
  clear h1 h2
  rcases hv.split with ⟨hnil, ao, cap, rfl⟩ | ⟨hpos, g, cap, rfl, hg⟩
  · have hro : rowsOf s.data.toList = [] := by unfold rowsOf; rw [hnil]; rfl
    have HR := Lib.hid hro
    clear hv hro hnil
    go_loopw [3, 5] (fun v' i wr => i = .int .i64 0 ∧ wr.ownsRow w.heap.size 52 3 v' 0 [] ∧ Below w.heap.size w wr) (fun _ _ _ => 0)
    case atStart => exact ⟨rfl, hown1, hB1⟩
    case round =>
      obtain ⟨rfl, hown, hB⟩ := hrel
      go_wp2
      go_ret
      rw [HR.out]
      exact ⟨_, rfl, hown, hB⟩
  · have HV := Lib.hid hv
    clear hv
    go_loopw [3, 5] (fun v' i wr => ∃ k : Nat, k ≤ (lines s.data.toList).length ∧ i = .int .i64 (k : Int) ∧ OwnOr w.heap.size w1.heap.size wr v' (((lines s.data.toList).take k).filter (bare s.data.toList)) ∧ Below w1.heap.size w1 wr) (fun _ i _ => (lines s.data.toList).length - (intOf i).toNat)
    case atStart => exact ⟨0, Nat.zero_le _, rfl, .inl ⟨rfl, rfl⟩, Below.refl _ _⟩
    case round =>
      obtain ⟨k, hk, rfl, hown, hBw⟩ := hrel
      have hB2 : w1.heap.size ≤ wr.heap.size := hBw.size
      by_cases hlt : k < (lines s.data.toList).length
      · obtain ⟨⟨a, b, c⟩, hp⟩ : ∃ p, (lines s.data.toList)[k]? = some p := ⟨_, List.getElem?_eq_getElem hlt⟩
        obtain ⟨_, x0, x1, x2⟩ := HV.out.at hp
        replace x0 := (hBw.cell (p := ⟨g, k * 3, none⟩) hg).trans x0
        replace x1 := (hBw.cell (p := ⟨g, k * 3 + 1, none⟩) hg).trans x1
        replace x2 := (hBw.cell (p := ⟨g, k * 3 + 2, none⟩) hg).trans x2
        have hgr : g < wr.heap.size := Nat.lt_of_lt_of_le hg hBw.size
        obtain ⟨hab, hbl, _, _⟩ := lines_get hp
        have hbl' : b ≤ s.size := by simpa using hbl
        have hstep := rows_step hp
        have hcall := fun w1 : World => Tryz.rBlank_calls s a b c w1 hs hab hbl'
        have hfl : (((lines s.data.toList).take k).filter (bare s.data.toList)).length ≤ s.size + 1 := by
          have h1 := List.length_filter_le (bare s.data.toList) ((lines s.data.toList).take k)
          have h3 : ((lines s.data.toList).take k).length ≤ (lines s.data.toList).length := by rw [List.length_take]; omega
          omega
        have HO := Lib.hid hown
        clear hown
        cases hbk : blankL (cutL s.data.toList a b) with
        | true =>
          rw [hbk] at hcall
          have hbare : bare s.data.toList (a, b, c) = false := by simp [bare, hbk]
          rw [if_neg (by rw [hbare]; simp), List.append_nil] at hstep
          have HC := Lib.hid hcall
          have HS := Lib.hid hstep
          clear hcall hstep hbare hbk hp hfl hab hbl
          go_wp2_with (go_at_call 34; refine (HC.out _).mono ?_; rintro e w2 ⟨rfl, hb2⟩)
          go_roundw
          case rel => exact ⟨k + 1, by omega, by go_num, by rw [HS.out]; exact HO.out.imp id (fun h => ownsRow_below h hb2 (Nat.le_refl _)), hBw.trans (hb2.mono hB2)⟩
          case measure => simp [intOf]; omega
        | false =>
          rw [hbk] at hcall
          have hbare : bare s.data.toList (a, b, c) = true := by simp [bare, hbk]
          rw [if_pos hbare] at hstep
          have HC := Lib.hid hcall
          have HS := Lib.hid hstep
          clear hcall hstep hbare hbk hp hab hbl
          generalize ((lines s.data.toList).take k).filter (bare s.data.toList) = q at *
          have hml : q.length + 1 ≤ maxLen := by unfold maxLen; omega
          have hml2 : (q.length + 1) * 24 ≤ 140737488355328 := by omega
          clear hfl
          rcases HO.out with ⟨hq, rfl⟩ | hown
          · have HQ := Lib.hid hq
            clear hq hml hml2
            go_wp2_with (first | (go_at_call 34; refine (HC.out _).mono ?_; rintro e w2 ⟨rfl, hb2⟩; have y4 := hBw.trans (hb2.mono hB2); have z0 := (hb2.cell (p := ⟨g, k * 3, none⟩) hgr).trans x0; have z1 := (hb2.cell (p := ⟨g, k * 3 + 1, none⟩) hgr).trans x1; have z2 := (hb2.cell (p := ⟨g, k * 3 + 2, none⟩) hgr).trans x2) | (at_builtin; refine wpList_append_grows _ rfl _ _ 46 rfl 52 i0 (.agg #[.int .i64 0, .int .i64 0, .int .i64 0]) 3 24 Tryz.underlying46 HI.out hz0 hz1 hz2 rfl (by decide) (some ⟨w.heap.size, 0, none⟩) 0 0 [] rfl (fun h => by cases h) rfl (fun b h j u hu => by cases hu) ⟨w2.heap.size, 0, none⟩ 1 1 [.int .i64 (a : Nat), .int .i64 (b : Nat), .int .i64 (c : Nat)] rfl rfl (curcells_new w2 #[.int .i64 (a : Nat), .int .i64 (b : Nat), .int .i64 (c : Nat)] 52) (by simp [Value.oneCell']) (by decide) (by unfold maxLen; decide) (by decide) ?_; intro v' w3 hown' hgrow))
            go_roundw
            case rel =>
              refine ⟨k + 1, by omega, by go_num, .inr ?_, (y4.alloc y4.size _).grown hgrow (by simp; have := y4.size; omega) (fun k e => by cases e)⟩
              rw [HS.out, HQ.out]
              exact ownsRow_base hown' (by simp; have := y4.size; omega)
            case measure => simp [intOf]; omega
          · go_wp2_with (first | (go_at_call 34; refine (HC.out _).mono ?_; rintro e w2 ⟨rfl, hb2⟩; have y2 := ownsRow_below hown hb2 (Nat.le_refl _); have y4 := hBw.trans (hb2.mono hB2); have z0 := (hb2.cell (p := ⟨g, k * 3, none⟩) hgr).trans x0; have z1 := (hb2.cell (p := ⟨g, k * 3 + 1, none⟩) hgr).trans x1; have z2 := (hb2.cell (p := ⟨g, k * 3 + 2, none⟩) hgr).trans x2) | (at_builtin; refine wpList_append_own _ rfl _ _ 46 rfl w1.heap.size 52 i0 (.agg #[.int .i64 0, .int .i64 0, .int .i64 0]) 3 24 Tryz.underlying46 HI.out hz0 hz1 hz2 rfl (by decide) _ _ _ rfl (y2.alloc _) ⟨w2.heap.size, 0, none⟩ 1 1 [.int .i64 (a : Nat), .int .i64 (b : Nat), .int .i64 (c : Nat)] rfl rfl (curcells_new w2 #[.int .i64 (a : Nat), .int .i64 (b : Nat), .int .i64 (c : Nat)] 52) (by simp [Value.oneCell']) hml hml2 (by have := y4.size; simp; omega) ?_; intro v' w3 hown' hgrow _))
            go_roundw
            case rel => exact ⟨k + 1, by omega, by go_num, .inr (by rw [HS.out, lineCells_snoc, List.length_append]; exact hown'), grown_below y4 y4.size y2 hgrow⟩
            case measure => simp [intOf]; omega
      · have hkk : k = (lines s.data.toList).length := by omega
        subst hkk
        rw [List.take_length] at hown
        have HO := Lib.hid hown
        clear hown
        go_wp2
        go_ret
        refine ⟨_, rfl, ?_, hB1.trans (hBw.mono hB1.size)⟩
        rcases HO.out with ⟨hq, rfl⟩ | hown
        · rw [show rowsOf s.data.toList = [] from hq]
          exact ownsRow_below hown1 hBw (Nat.le_refl _)
        · exact ownsRow_base hown hB1.size
#print axioms Tryz.rRows_calls
end Go.Proofs
/- Plain facts on lists of places with numbers: which is below which, one put into a sorted list, many put one by one; no program. -/
namespace Go.Dg
abbrev Mk := Int × Int
/-- Is one below another one? -/
def lt (a b : Mk) : Bool := decide (a.1 < b.1 ∨ (a.1 = b.1 ∧ a.2 < b.2))
theorem lt_iff {a b : Mk} : lt a b = true ↔ (a.1 < b.1 ∨ (a.1 = b.1 ∧ a.2 < b.2)) := decide_eq_true_iff
theorem lt_no {a b : Mk} : lt a b = false ↔ ¬ (a.1 < b.1 ∨ (a.1 = b.1 ∧ a.2 < b.2)) := decide_eq_false_iff_not
theorem lt_irrefl (a : Mk) : lt a a = false := lt_no.2 (by omega)
theorem lt_trans {a b c : Mk} (h : lt a b = true) (k : lt b c = true) : lt a c = true := by
  rw [lt_iff] at *; omega
theorem lt_asymm {a b : Mk} (h : lt a b = true) : lt b a = false := by
  rw [lt_iff] at h; rw [lt_no]; omega
theorem lt_tri {a b : Mk} (h : lt a b = false) (hne : a ≠ b) : lt b a = true := by
  rw [lt_no] at h; rw [lt_iff]
  have : ¬ (a.1 = b.1 ∧ a.2 = b.2) := fun e => hne (Prod.ext e.1 e.2)
  omega
theorem lt_ne {a b : Mk} (h : lt a b = true) : a ≠ b := by rintro rfl; rw [lt_irrefl] at h; cases h

/-- Each above the one ahead of it. -/
def Srt : List Mk → Prop
  | [] => True
  | x :: r => (∀ y ∈ r, lt x y = true) ∧ Srt r
theorem Srt.tail {x : Mk} {r : List Mk} (h : Srt (x :: r)) : Srt r := h.2
theorem Srt.take : ∀ {l : List Mk} (n : Nat), Srt l → Srt (l.take n)
  | [], _, _ => by simp [Srt]
  | x :: r, 0, _ => by simp [Srt]
  | x :: r, n + 1, h => ⟨fun y hy => h.1 y (List.mem_of_mem_take hy), Srt.take n h.2⟩
theorem Srt.get : ∀ {l : List Mk} (_ : Srt l) {i j : Nat} {a b : Mk}, i < j → l[i]? = some a → l[j]? = some b → lt a b = true
  | [], _, i, j, a, b, _, h, _ => by simp at h
  | x :: r, hs, 0, j + 1, a, b, _, h1, h2 => by
    have e : x = a := by simpa using h1
    subst e
    have h2' : r[j]? = some b := by simpa using h2
    exact hs.1 b (List.mem_of_getElem? h2')
  | x :: r, hs, i + 1, j + 1, a, b, hij, h1, h2 => Srt.get hs.2 (i := i) (j := j) (by omega) (by simpa using h1) (by simpa using h2)
theorem Srt.of_get : ∀ {l : List Mk}, (∀ i a b, l[i]? = some a → l[i + 1]? = some b → lt a b = true) → Srt l
  | [], _ => trivial
  | [x], _ => ⟨fun _ h => (List.not_mem_nil h).elim, trivial⟩
  | x :: y :: r, h => by
    have ih : Srt (y :: r) := Srt.of_get fun i a b h1 h2 => h (i + 1) a b (by simpa using h1) (by simpa using h2)
    have hxy := h 0 x y rfl rfl
    refine ⟨fun z hz => ?_, ih⟩
    rcases List.mem_cons.1 hz with rfl | hz
    · exact hxy
    · exact lt_trans hxy (ih.1 z hz)

/-- d in its place among l, unless it is there. -/
def ins (d : Mk) : List Mk → List Mk
  | [] => [d]
  | x :: r => if lt x d = true then x :: ins d r else if x = d then x :: r else d :: x :: r
def putS (l : List Mk) (d : Mk) : List Mk := (ins d l).take 16
def allS (l : List Mk) : List Mk := l.foldl putS []
theorem mem_ins {d x : Mk} : ∀ {l : List Mk}, x ∈ ins d l ↔ x = d ∨ x ∈ l
  | [] => by simp [ins]
  | y :: r => by
    unfold ins
    split
    · rw [List.mem_cons, List.mem_cons, mem_ins]
      constructor
      · rintro (h | h | h) <;> simp [h]
      · rintro (h | h | h) <;> simp [h]
    · split
      · rename_i h; subst h
        simp
      · simp
theorem srt_ins {d : Mk} : ∀ {l : List Mk}, Srt l → Srt (ins d l)
  | [], _ => ⟨fun _ h => (List.not_mem_nil h).elim, trivial⟩
  | y :: r, h => by
    unfold ins
    split
    · rename_i h1
      refine ⟨fun z hz => ?_, srt_ins h.2⟩
      rcases mem_ins.1 hz with rfl | hz
      · exact h1
      · exact h.1 z hz
    · rename_i h1
      split
      · exact h
      · rename_i h2
        have h3 : lt d y = true := lt_tri (by simpa using h1) h2
        refine ⟨fun z hz => ?_, h⟩
        rcases List.mem_cons.1 hz with rfl | hz
        · exact h3
        · exact lt_trans h3 (h.1 z hz)
theorem len_ins (d : Mk) : ∀ (l : List Mk), (ins d l).length ≤ l.length + 1
  | [] => by simp [ins]
  | y :: r => by
    unfold ins
    split
    · have := len_ins d r; simp; omega
    · split <;> simp
theorem srt_putS {l : List Mk} {d : Mk} (h : Srt l) : Srt (putS l d) := (srt_ins h).take 16
theorem len_putS (l : List Mk) (d : Mk) : (putS l d).length ≤ 16 := by unfold putS; rw [List.length_take]; omega
theorem foldl_put : ∀ (l a : List Mk), Srt a → a.length ≤ 16 → Srt (l.foldl putS a) ∧ (l.foldl putS a).length ≤ 16
  | [], _, h, k => ⟨h, k⟩
  | d :: r, a, h, _ => foldl_put r (putS a d) (srt_putS h) (len_putS a d)
theorem srt_allS (l : List Mk) : Srt (allS l) := (foldl_put l [] trivial (by simp)).1
theorem len_allS (l : List Mk) : (allS l).length ≤ 16 := (foldl_put l [] trivial (by simp)).2

/-- What is cut off is not looked at. -/
theorem take_ins (d : Mk) : ∀ (n : Nat) (l : List Mk), (ins d (l.take n)).take n = (ins d l).take n
  | 0, _ => by simp
  | n + 1, [] => by simp
  | n + 1, x :: r => by
    simp only [List.take_succ_cons, ins]
    split
    · simp only [List.take_succ_cons]; rw [take_ins d n r]
    · split
      · simp [List.take_take]
      · simp only [List.take_succ_cons]
        cases n with
        | zero => simp
        | succ m => simp [List.take_take]
def insAll (l : List Mk) (a : List Mk) : List Mk := l.foldl (fun a d => ins d a) a
theorem foldl_take : ∀ (l a : List Mk), l.foldl putS (a.take 16) = (insAll l a).take 16
  | [], a => by simp [insAll]
  | d :: r, a => by
    have e : putS (a.take 16) d = (ins d a).take 16 := take_ins d 16 a
    simp only [List.foldl_cons, insAll, e]
    exact foldl_take r (ins d a)
theorem allS_eq (l : List Mk) : allS l = (insAll l []).take 16 := by
  have := foldl_take l []
  simpa [allS] using this
theorem mem_insAll {x : Mk} : ∀ {l a : List Mk}, x ∈ insAll l a ↔ x ∈ l ∨ x ∈ a
  | [], a => by simp [insAll]
  | d :: r, a => by
    have := mem_insAll (x := x) (l := r) (a := ins d a)
    simp only [insAll, List.foldl_cons] at this ⊢
    rw [this, mem_ins, List.mem_cons]
    constructor
    · rintro (h | h | h) <;> simp [h]
    · rintro ((h | h) | h) <;> simp [h]
theorem srt_insAll : ∀ {l a : List Mk}, Srt a → Srt (insAll l a)
  | [], _, h => h
  | d :: r, _, h => srt_insAll (l := r) (srt_ins (d := d) h)
/-- DgTwo sorted lists of the same elements are one. -/
theorem srt_ext : ∀ {a b : List Mk}, Srt a → Srt b → (∀ x, x ∈ a ↔ x ∈ b) → a = b
  | [], [], _, _, _ => rfl
  | [], y :: b, _, _, h => by have := (h y).2 (by simp); simp at this
  | x :: a, [], _, _, h => by have := (h x).1 (by simp); simp at this
  | x :: a, y :: b, ha, hb, h => by
    have e : x = y := by
      rcases List.mem_cons.1 ((h x).1 (by simp)) with e | hx
      · exact e
      · rcases List.mem_cons.1 ((h y).2 (by simp)) with e | hy
        · exact e.symm
        · have h1 := hb.1 x hx
          have h2 := ha.1 y hy
          rw [lt_asymm h1] at h2; cases h2
    subst e
    refine congrArg _ (srt_ext ha.2 hb.2 fun z => ?_)
    have hz := h z
    constructor
    · intro hza
      rcases List.mem_cons.1 (hz.1 (by simp [hza])) with rfl | h'
      · exact absurd rfl (lt_ne (ha.1 z hza))
      · exact h'
    · intro hzb
      rcases List.mem_cons.1 (hz.2 (by simp [hzb])) with rfl | h'
      · exact absurd rfl (lt_ne (hb.1 z hzb))
      · exact h'
theorem allS_perm {l m : List Mk} (h : ∀ x, x ∈ l ↔ x ∈ m) : allS l = allS m := by
  rw [allS_eq, allS_eq, srt_ext (a := insAll l []) (b := insAll m []) (srt_insAll (a := []) trivial) (srt_insAll (a := []) trivial) (fun x => by rw [mem_insAll, mem_insAll, h x])]

/-- How many are below d. -/
def below (l : List Mk) (d : Mk) : Nat := (l.takeWhile fun x => lt x d).length
theorem below_le (l : List Mk) (d : Mk) : below l d ≤ l.length := (List.takeWhile_sublist _).length_le
theorem below_lo {l : List Mk} {d : Mk} : ∀ {i : Nat} {x : Mk}, i < below l d → l[i]? = some x → lt x d = true := by
  induction l with
  | nil => intro i x _ h; simp at h
  | cons y r ih =>
    intro i x hi hx
    unfold below at hi
    rw [List.takeWhile_cons] at hi
    split at hi
    · rename_i h1
      cases i with
      | zero => have e : y = x := by simpa using hx
                subst e; exact h1
      | succ i => exact ih (i := i) (by unfold below; simp only [List.length_cons] at hi; omega) (by simpa using hx)
    · simp at hi
theorem below_at {l : List Mk} {d x : Mk} (h : l[below l d]? = some x) : lt x d = false := by
  induction l with
  | nil => simp [below] at h
  | cons y r ih =>
    unfold below at h
    rw [List.takeWhile_cons] at h
    split at h
    · exact ih (by unfold below; simpa using h)
    · rename_i h1
      have e : y = x := by simpa using h
      subst e; simpa using h1
/-- Where the list is sorted, whatever is not below d stands behind. -/
theorem below_of {l : List Mk} {d : Mk} (hs : Srt l) {k : Nat} {x : Mk} (h : l[k]? = some x) : (lt x d = true → k < below l d) ∧ (lt x d = false → below l d ≤ k) := by
  constructor
  · intro hx
    apply Nat.lt_of_not_le
    intro hk
    have hkl : k < l.length := (List.getElem?_eq_some_iff.1 h).1
    obtain ⟨y, hy⟩ : ∃ y, l[below l d]? = some y := ⟨_, List.getElem?_eq_getElem (by omega)⟩
    have h1 := below_at hy
    rcases Nat.eq_or_lt_of_le hk with e | hlt
    · rw [← e, hy] at h; cases h; rw [hx] at h1; cases h1
    · have h2 := lt_trans (hs.get hlt hy h) hx
      rw [h1] at h2; cases h2
  · intro hx
    apply Nat.le_of_not_lt
    intro hk
    rw [below_lo hk h] at hx; cases hx
theorem ins_eq {d : Mk} : ∀ {l : List Mk}, ins d l = if l[below l d]? = some d then l else l.take (below l d) ++ d :: l.drop (below l d)
  | [] => by simp [ins, below]
  | x :: r => by
    have ih := ins_eq (d := d) (l := r)
    unfold ins
    by_cases h1 : lt x d = true
    · have hb : below (x :: r) d = below r d + 1 := by unfold below; rw [List.takeWhile_cons, if_pos h1]; simp
      rw [if_pos h1, ih, hb]
      simp only [List.getElem?_cons_succ, List.take_succ_cons, List.drop_succ_cons]
      split <;> simp
    · have hb : below (x :: r) d = 0 := by unfold below; rw [List.takeWhile_cons, if_neg h1]; rfl
      rw [if_neg h1, hb]
      by_cases h2 : x = d
      · subst h2; simp
      · simp [h2]
theorem putS_there {l : List Mk} {d : Mk} (h : l[below l d]? = some d) (hl : l.length ≤ 16) : putS l d = l := by
  unfold putS; rw [ins_eq, if_pos h, List.take_of_length_le hl]
theorem putS_new {l : List Mk} {d : Mk} (h : l[below l d]? ≠ some d) : putS l d = (l.take (below l d) ++ d :: l.drop (below l d)).take 16 := by
  unfold putS; rw [ins_eq, if_neg h]
/-- The cells of a list. -/
def cellsOf (l : List Mk) : List Value := l.flatMap fun p => [.int .i64 p.1, .int .i64 p.2]
theorem cells_snoc (l : List Mk) (a b : Int) : cellsOf (l ++ [(a, b)]) = cellsOf l ++ [.int .i64 a, .int .i64 b] := by simp [cellsOf]
theorem cells_append (l m : List Mk) : cellsOf (l ++ m) = cellsOf l ++ cellsOf m := by simp [cellsOf]
theorem cells_len : ∀ (l : List Mk), (cellsOf l).length = l.length * 2
  | [] => rfl
  | x :: r => by have := cells_len r; simp only [cellsOf, List.flatMap_cons, List.length_append, List.length_cons, List.length_nil] at this ⊢; omega
theorem cells_take : ∀ (k : Nat) (l : List Mk), (cellsOf l).take (k * 2) = cellsOf (l.take k)
  | 0, _ => by simp [cellsOf]
  | k + 1, [] => by simp [cellsOf]
  | k + 1, x :: r => by
    have := cells_take k r
    simp only [cellsOf, List.flatMap_cons, List.take_succ_cons] at this ⊢
    rw [show (k + 1) * 2 = k * 2 + 1 + 1 from by omega]
    simp [this]
theorem cells_drop : ∀ (k : Nat) (l : List Mk), (cellsOf l).drop (k * 2) = cellsOf (l.drop k)
  | 0, _ => by simp
  | k + 1, [] => by simp [cellsOf]
  | k + 1, x :: r => by
    have := cells_drop k r
    simp only [cellsOf, List.flatMap_cons, List.drop_succ_cons] at this ⊢
    rw [show (k + 1) * 2 = k * 2 + 1 + 1 from by omega]
    simp [this]
theorem cells_get : ∀ {l : List Mk} {i : Nat} {a b : Int}, l[i]? = some (a, b) → (cellsOf l)[i * 2]? = some (.int .i64 a) ∧ (cellsOf l)[i * 2 + 1]? = some (.int .i64 b)
  | [], i, a, b, h => by simp at h
  | x :: r, 0, a, b, h => by
    have e : x = (a, b) := by simpa using h
    subst e; exact ⟨rfl, rfl⟩
  | x :: r, i + 1, a, b, h => by
    have := cells_get (l := r) (i := i) (a := a) (b := b) (by simpa using h)
    rw [show (i + 1) * 2 = i * 2 + 1 + 1 from by omega]
    simpa [cellsOf] using this
theorem cells_one (l : List Mk) : ∀ v ∈ cellsOf l, v.oneCell' = true := by
  intro v hv
  simp only [cellsOf, List.mem_flatMap, List.mem_cons, List.not_mem_nil, or_false] at hv
  obtain ⟨p, _, h | h⟩ := hv <;> (subst h; rfl)
theorem take_get {α : Type} {l : List α} {k : Nat} {x : α} (h : l[k]? = some x) : l.take (k + 1) = l.take k ++ [x] := by
  obtain ⟨hk, rfl⟩ := List.getElem?_eq_some_iff.1 h
  exact List.take_succ_eq_append_getElem hk
end Go.Dg
/- cmp.Compare and cmp.Or as this program calls them; the order of marks. No condition but that a list of two is what it is. -/
namespace Go.Dg
def cmpI (x y : Int) : Int := if x < y then -1 else if y < x then 1 else 0
def orI (x y : Int) : Int := if x = 0 then y else x
def cmpM (a b : Mk) : Int := orI (cmpI a.1 b.1) (cmpI a.2 b.2)
theorem cmpM_lt {a b : Mk} : cmpM a b < 0 ↔ lt a b = true := by
  rw [lt_iff]; unfold cmpM orI cmpI
  split <;> (repeat' split at *) <;> omega
theorem cmpM_eq {a b : Mk} : cmpM a b = 0 ↔ a = b := by
  unfold cmpM orI cmpI
  constructor
  · intro h
    refine Prod.ext ?_ ?_ <;> (split at h <;> (repeat' split at *) <;> omega)
  · rintro rfl
    simp
theorem cmpM_le {a b : Mk} : cmpM a b ≤ 0 ↔ lt b a = false := by
  rw [lt_no]; unfold cmpM orI cmpI
  split <;> (repeat' split at *) <;> omega
theorem cmpI_in (x y : Int) : cmpI x y = -1 ∨ cmpI x y = 0 ∨ cmpI x y = 1 := by
  unfold cmpI; split
  · exact .inl rfl
  · split
    · exact .inr (.inr rfl)
    · exact .inr (.inl rfl)
end Go.Dg
namespace Go.Proofs
open Go.RowKit Go.Dg
attribute [local go_sem] Oper.semAt_some
attribute [local go_sem ↓] Go.wp_at_zero Go.wp_at_succ

theorem ret_int' {k : IntKind} {a b : Int} (h : a = b) : Ending.returned (.int k a) = .returned (.int k b) := by rw [h]
/-- A block of two cells, of the call's own. -/
def DgTwo (W : World) (b : Nat) (x y : Value) : Prop := b < W.heap.size ∧ W.cell? ⟨b, 0, none⟩ = some x ∧ W.cell? ⟨b, 1, none⟩ = some y
theorem DgTwo.new (w : World) (x y : Value) (t : TypeId) : DgTwo (w.alloc (.cells #[x, y] t)) w.heap.size x y := by
  have e := World.alloc_heap_new w (.cells #[x, y] t)
  refine ⟨by simp, ?_, ?_⟩
  · unfold World.cell?; simp only [e]; rfl
  · unfold World.cell?; simp only [e]; rfl
theorem DgTwo.newAt {w : World} {n : Nat} (x y : Value) (t : TypeId) (h : n = w.heap.size) : DgTwo (w.alloc (.cells #[x, y] t)) n x y := by rw [h]; exact DgTwo.new w x y t
theorem DgTwo.below {B b : Nat} {W W' : World} {x y : Value} (h : DgTwo W b x y) (hb : Below B W W') (hlt : b < B) : DgTwo W' b x y :=
  ⟨Nat.lt_of_lt_of_le h.1 hb.size, (hb.cell (p := ⟨b, 0, none⟩) hlt).trans h.2.1, (hb.cell (p := ⟨b, 1, none⟩) hlt).trans h.2.2⟩
theorem DgTwo.next {b : Nat} {W W' : World} {x y : Value} (h : DgTwo W b x y) (hb : Below W.heap.size W W') : DgTwo W' b x y := h.below hb h.1
theorem DgTwo.alloc {b : Nat} {W : World} {x y : Value} (h : DgTwo W b x y) (o : Obj) : DgTwo (W.alloc o) b x y := h.next ((Below.refl _ _).alloc (Nat.le_refl _) o)
theorem DgTwo.drew {b : Nat} {W : World} {x y : Value} (h : DgTwo W b x y) : DgTwo W.drew b x y := h
/-- What the comparison holds while it goes. -/
def Held2 (w : World) (a b : Mk) (W : World) : Prop := DgTwo W w.heap.size (.int .i64 a.1) (.int .i64 a.2) ∧ DgTwo W (w.heap.size + 1) (.int .i64 b.1) (.int .i64 b.2) ∧ Below w.heap.size w W
theorem Held2.new (w : World) (a b : Mk) (t u : TypeId) : Held2 w a b ((w.alloc (.cells #[.int .i64 a.1, .int .i64 a.2] t)).alloc (.cells #[.int .i64 b.1, .int .i64 b.2] u)) :=
  ⟨(DgTwo.new _ _ _ _).alloc _, by have := DgTwo.new (w.alloc (.cells #[.int .i64 a.1, .int .i64 a.2] t)) (.int .i64 b.1) (.int .i64 b.2) u; simpa using this, ((Below.refl _ w).alloc (Nat.le_refl _) _).alloc (by simp) _⟩
theorem Held2.drew {w W : World} {a b : Mk} (h : Held2 w a b W) : Held2 w a b W.drew := ⟨h.1, h.2.1, h.2.2.drew⟩
theorem Held2.alloc {w W : World} {a b : Mk} (h : Held2 w a b W) (o : Obj) : Held2 w a b (W.alloc o) := ⟨h.1.alloc o, h.2.1.alloc o, h.2.2.alloc h.2.2.size o⟩
theorem Held2.next {w W W' : World} {a b : Mk} (h : Held2 w a b W) (hb : Below W.heap.size W W') : Held2 w a b W' := ⟨h.1.next hb, h.2.1.next hb, h.2.2.trans (hb.mono h.2.2.size)⟩
theorem held2_S {w W : World} {a b : Mk} (h : Held2 w a b W) : W.cell? ⟨w.heap.size, 0, none⟩ = some (.int .i64 a.1) ∧ W.cell? ⟨w.heap.size, 1, none⟩ = some (.int .i64 a.2) ∧ W.cell? ⟨w.heap.size + 1, 0, none⟩ = some (.int .i64 b.1) ∧ W.cell? ⟨w.heap.size + 1, 1, none⟩ = some (.int .i64 b.2) ∧ Held2 w a b W := ⟨h.1.2.1, h.1.2.2, h.2.1.2.1, h.2.1.2.2, h⟩
end Go.Proofs
/- strconv.Itoa as this program calls it, and the document's own Num: the decimal text of a number. Conditions: an int; the table of powers of ten holds what the card lays (Itoa). -/
namespace Go.Dg
theorem cat (x y : List UInt8) : (⟨x.toArray⟩ : ByteArray) ++ ⟨y.toArray⟩ = ⟨(x ++ y).toArray⟩ := by
  apply ByteArray.ext
  simp
theorem byte_of {x : Nat} (h : x < 10) : (UInt8.ofNat (48 + x)).toNat = 48 + x := by
  rw [UInt8.toNat_ofNat']; omega
/-- What the loop over the digits holds. -/
def Dig (n q : Nat) (s : List UInt8) : Prop := (s = [] ∧ q = n) ∨ (s ≠ [] ∧ q = 0 ∧ s = Lib.decDigits n) ∨ (s ≠ [] ∧ 0 < q ∧ Lib.decDigits n = Lib.decDigits q ++ s)
theorem Dig.step {n q : Nat} {s : List UInt8} (h : Dig n q s) (hq : 0 < q ∨ s = []) : Dig n (q / 10) (UInt8.ofNat (48 + q % 10) :: s) := by
  have key : Lib.decDigits n = Lib.decDigits q ++ s := by
    rcases h with ⟨rfl, rfl⟩ | ⟨h1, h2, h3⟩ | ⟨h1, h2, h3⟩
    · simp
    · rcases hq with hq | hq
      · omega
      · exact absurd hq h1
    · exact h3
  by_cases h10 : q < 10
  · refine .inr (.inl ⟨by simp, by omega, ?_⟩)
    rw [key, Lib.decDigits_one h10, Nat.mod_eq_of_lt h10]; rfl
  · refine .inr (.inr ⟨by simp, by omega, ?_⟩)
    rw [key, Lib.decDigits, dif_neg h10]; simp
theorem Dig.done {n : Nat} {s : List UInt8} (h : Dig n 0 s) (hs : s ≠ []) : s = Lib.decDigits n := by
  rcases h with ⟨h1, _⟩ | ⟨_, _, h⟩ | ⟨_, h, _⟩
  · exact absurd h1 hs
  · exact h
  · omega
theorem Dig.len {n q : Nat} {s : List UInt8} (h : Dig n q s) (hn : n < 18446744073709551616) : s.length ≤ 20 := by
  have hd : (Lib.decDigits n).length ≤ 20 := by rw [Lib.decDigits_length]; exact Lib.nDigits_le20 n hn
  rcases h with ⟨rfl, _⟩ | ⟨_, _, rfl⟩ | ⟨_, _, h⟩
  · simp
  · exact hd
  · rw [h] at hd; simp at hd; omega
end Go.Dg
namespace Go.Proofs
open Go.RowKit Go.Dg Go.Sort
attribute [local go_sem] Oper.semAt_some
attribute [local go_sem ↓] Go.wp_at_zero Go.wp_at_succ
/-- The table of powers of ten holds what the card lays. -/
def Tab (w : World) : Prop := Lib.TabIs Tryz.prog w "internal/strconv.uint64pow10" .u64 Lib.pow10Tab
theorem Tab.below {n : Nat} {w w' : World} (h : Tab w) (hb : Below n w w') (hn : w.heap.size ≤ n) : Tab w' := by
  unfold Tab Lib.TabIs World.var? at h ⊢
  cases hg : Tryz.prog.globalNamed "internal/strconv.uint64pow10" with
  | none => rw [hg] at h; cases h
  | some g =>
    rw [hg] at h
    simp only [Option.bind_some] at h ⊢
    have hlt : g < w.heap.size := by
      rcases Nat.lt_or_ge g w.heap.size with h' | h'
      · exact h'
      · rw [Array.getElem?_eq_none h'] at h; cases h
    rw [hb.block g (by omega)]
    exact h
theorem Tab.next {w w' : World} (h : Tab w) (hb : Below w.heap.size w w') : Tab w' := h.below hb (Nat.le_refl _)
theorem Tab.alloc {w : World} (h : Tab w) (o : Obj) : Tab (w.alloc o) := h.next ((Below.refl _ w).alloc (Nat.le_refl _) o)
theorem below_grow (w : World) (n : Nat) (os : Array Obj) : Below w.heap.size w (grow (w.drewN n) os) :=
  ⟨rfl, rfl, rfl, by simp [grow], fun k hk => by simp only [grow]; rw [Array.getElem?_append_left (by simpa using hk)]; simp⟩
theorem Tryz.itoa_any (n : Int) (h0 : -9223372036854775808 ≤ n) (h1 : n ≤ 9223372036854775807) (w : World) (ht : Tab w) :
    Calls Tryz.prog 20 #[.int .i64 n] w fun e w' => e = .returned (.string ⟨(Lib.itoa n).toArray⟩) ∧ Below w.heap.size w w' := by
  refine (Tryz.strconv_Itoa n h0 h1 w ht).mono fun e w' ⟨he, k, os, hw⟩ => ?_
  subst hw
  exact ⟨he, below_grow w k os⟩
end Go.Proofs
/- The document's own Num: the decimal text of a number. Conditions: an int. -/
namespace Go.Proofs
open Go.RowKit Go.Dg Go.Sort
attribute [local go_sem] Oper.semAt_some
attribute [local go_sem ↓] Go.wp_at_zero Go.wp_at_succ
/-- A byte as a text. -/
theorem one_byte (W : World) (d : Nat) (h : d < 10) : (convert 109 9 (.slice (some ⟨W.heap.size, 0, none⟩) 1 1)).run Tryz.prog (W.alloc (.cells #[.int .u8 (48 + (d : Int))] 5)) = .ok (.string ⟨[UInt8.ofNat (48 + d)].toArray⟩) (W.alloc (.cells #[.int .u8 (48 + (d : Int))] 5)) := by
  have hb : ((UInt8.ofNat (48 + d)).toNat : Int) = 48 + (d : Int) := by rw [byte_of h]; omega
  rw [← hb]
  refine run_convert_bytes_back (P := Tryz.prog) (W.alloc (.cells #[.int .u8 ((UInt8.ofNat (48 + d)).toNat : Int)] 5)) 109 9 5 ⟨W.heap.size, 0, none⟩ 1 [UInt8.ofNat (48 + d)] Tryz.underlying109 Tryz.underlying5 Tryz.underlying9 (fun j hj => ?_)
  obtain rfl : j = 0 := by simp at hj; omega
  have e := World.alloc_heap_new W (.cells #[.int .u8 ((UInt8.ofNat (48 + d)).toNat : Int)] 5)
  rw [Addr.add_lit]
  unfold World.cell?; simp only [e]; rfl
end Go.Proofs
/- Layer 14, plainly: what the document answers of a head. No program of the layer itself. No condition. -/
namespace Go.Hdr
open Go.Wds Go.Proofs Go.Cur Go.Fx Go.Metric Go.Layout
/-- A head. -/
structure Hd where
  name : ByteArray
  kind : Int
  dim : Int
  cap : Int
  met : Int
  lay : Int
deriving DecidableEq
def hd0 : Hd := ⟨⟨#[]⟩, 0, 0, 0, 0, 0⟩
/-- A head, as a value. -/
def hdV (h : Hd) : Value := .agg #[.string h.name, .int .i64 h.kind, .int .i64 h.dim, .int .i64 h.cap, .int .i64 h.met, .int .i64 h.lay]
def hkName : ByteArray := ⟨#[78, 65, 77, 69]⟩
def hkType : ByteArray := ⟨#[84, 89, 80, 69]⟩
def hkDim : ByteArray := ⟨#[68, 73, 77, 69, 78, 83, 73, 79, 78]⟩
def hkCap : ByteArray := ⟨#[67, 65, 80, 65, 67, 73, 84, 89]⟩
def hkMet : ByteArray := ⟨#[69, 68, 71, 69, 95, 87, 69, 73, 71, 72, 84, 95, 84, 89, 80, 69]⟩
def hkLay : ByteArray := ⟨#[69, 68, 71, 69, 95, 87, 69, 73, 71, 72, 84, 95, 70, 79, 82, 77, 65, 84]⟩
def hkTsp : ByteArray := ⟨#[84, 83, 80]⟩
def hkCvrp : ByteArray := ⟨#[67, 86, 82, 80]⟩
def hkSec : ByteArray := ⟨#[95, 83, 69, 67, 84, 73, 79, 78]⟩
def hkEof : ByteArray := ⟨#[69, 79, 70]⟩
def hkCom : ByteArray := ⟨#[67, 79, 77, 77, 69, 78, 84]⟩
def hkDis : ByteArray := ⟨#[68, 73, 83, 80, 76, 65, 89, 95, 68, 65, 84, 65, 95, 84, 89, 80, 69]⟩
def hkNod : ByteArray := ⟨#[78, 79, 68, 69, 95, 67, 79, 79, 82, 68, 95, 84, 89, 80, 69]⟩
/-- Whether there may be such a head. -/
def mayH (h : Hd) : Bool := nameL h.name.data.toList && decide (1 ≤ h.dim ∧ h.dim ≤ 400) && decide (0 ≤ h.met ∧ h.met ≤ 5) && decide ((h.met = 0 ∧ 1 ≤ h.lay ∧ h.lay ≤ 7) ∨ (h.met ≠ 0 ∧ h.lay = 0)) && decide ((h.kind = 1 ∧ h.cap = 0) ∨ (h.kind = 2 ∧ 1 ≤ h.cap ∧ h.cap ≤ 100000000))
/-- Whether a text ends in another one. -/
def endsE (s t : ByteArray) : Bool := decide (t.size ≤ s.size) && decide (s.extract (s.size - t.size) s.size = t)
/-- A number of a text from one on, or 0. -/
def numE (s : ByteArray) (most : Int) : Int := if (intR s.data.toList).2 = 0 ∧ 1 ≤ (intR s.data.toList).1 ∧ (intR s.data.toList).1 ≤ most then (intR s.data.toList).1 else 0
/-- A key's place among those that are looked at. -/
def hplaceE (k : ByteArray) : Int := if k = hkName then 0 else if k = hkType then 1 else if k = hkDim then 2 else if k = hkCap then 3 else if k = hkMet then 4 else if k = hkLay then 5 else -1
/-- A value put into a head. -/
def putE (h : Hd) (k : Int) (v : ByteArray) : Hd × Bool :=
  if k = 0 then ({ h with name := v }, nameL v.data.toList)
  else if k = 1 then
    let q : Int := if v = hkCvrp then 2 else if v = hkTsp then 1 else h.kind
    ({ h with kind := q }, decide (0 < q))
  else if k = 2 then ({ h with dim := numE v 400 }, decide (0 < numE v 400))
  else if k = 3 then ({ h with cap := numE v 100000000 }, decide (0 < numE v 100000000))
  else if k = 4 then ({ h with met := (ofR v).1 }, (ofR v).2)
  else ({ h with lay := lofR v }, decide (0 < lofR v))
/-- What words.Key tells of a part that there is. -/
def keyE (s : ByteArray) (a b : Nat) : ByteArray × (Nat × Nat) × Bool :=
  if isKey (keyPart s a b) = true then
    (keyPart s a b, if seekL colB s.data.toList a b < b then trimL s.data.toList (seekL colB s.data.toList a b + 1) b else (b, b), true)
  else (⟨#[]⟩, (0, 0), false)
theorem keyE_is (s : ByteArray) (a b : Nat) (hab : a ≤ b) (hb : b ≤ s.size) : KeyIs s a b (keyE s a b).1 (keyE s a b).2.1.1 (keyE s a b).2.1.2 (keyE s a b).2.2 := by
  unfold keyE
  cases hk : isKey (keyPart s a b) with
  | false => exact .none a b hab hb hk
  | true =>
    simp only [if_true]
    by_cases h : seekL colB s.data.toList a b < b
    · rw [if_pos h]; exact .both a b hab hb hk h
    · rw [if_neg h]; exact .alone a b hab hb hk (Nat.le_antisymm (seek_le hab) (Nat.le_of_not_lt h))
/-- What was taken so far: the head, and which keys came. -/
structure Pr where
  h : Hd
  c : Nat → Bool
def pr0 : Pr := ⟨hd0, fun _ => false⟩
/-- What a row does: it ends the head, it is an error, or it is taken. -/
inductive Rs
  | stop
  | bad (at_ : Nat) (code : Int)
  | go (p : Pr)
def endB (k : ByteArray) : Bool := endsE k hkSec || decide (k = hkEof)
def skipB (k : ByteArray) : Bool := decide (k = hkCom) || decide (k = hkDis) || decide (k = hkNod)
def rowE (s : ByteArray) (p : Pr) (r : Nat × Nat × Nat) : Rs :=
  let q := keyE s r.1 r.2.1
  if endB q.1 = true then .stop
  else if q.2.2 = false then .bad r.1 3
  else if skipB q.1 = true then .go p
  else if hplaceE q.1 < 0 ∨ p.c (hplaceE q.1).toNat = true then .bad r.1 140
  else if (putE p.h (hplaceE q.1) (textI s q.2.1.1 q.2.1.2)).2 = false then .bad q.2.1.1 141
  else .go ⟨(putE p.h (hplaceE q.1) (textI s q.2.1.1 q.2.1.2)).1, fun i => p.c i || decide (i = (hplaceE q.1).toNat)⟩
/-- The whole: an error, or what was taken and where it ends. -/
def rowsE14 (s : ByteArray) : List (Nat × Nat × Nat) → Pr → (Nat × Int) ⊕ (Pr × Nat)
  | [], p => .inr (p, s.size)
  | r :: l, p => match rowE s p r with
    | .stop => .inr (p, r.1)
    | .bad a c => .inl (a, c)
    | .go q => rowsE14 s l q
def lackE (p : Pr) : Bool := !p.c 0 || !p.c 1 || !p.c 2 || !p.c 4 || (decide (p.h.kind = 2) && !p.c 3) || (decide (p.h.met = 0) && !p.c 5)
/-- What Parse tells: the head, where it ends, and what is wrong. -/
def parseE (s : ByteArray) : Hd × Nat × Nat × Int := match rowsE14 s (rowsOf s.data.toList) pr0 with
  | .inl (a, c) => (hd0, 0, a, c)
  | .inr (p, e) => if lackE p = true then (hd0, 0, e, 142) else (p.h, e, 0, 0)
def kindS (k : Int) : ByteArray := if k = 2 then hkCvrp else hkTsp
def numS (n : Int) : ByteArray := ⟨(Lib.itoa n).toArray⟩
def col : ByteArray := ⟨#[32, 58, 32]⟩
def lf : ByteArray := ⟨#[10]⟩
def lineH (k v : ByteArray) : ByteArray := k ++ col ++ v ++ lf
/-- What Print tells. -/
def printE (h : Hd) : ByteArray := if mayH h = true then
    lineH hkName h.name ++ lineH hkType (kindS h.kind) ++ lineH hkDim (numS h.dim) ++ (if h.kind = 2 then lineH hkCap (numS h.cap) else ⟨#[]⟩) ++ lineH hkMet (kwS h.met) ++ (if h.met = 0 then lineH hkLay (lkwS h.lay) else ⟨#[]⟩)
  else ⟨#[]⟩
end Go.Hdr
/- The document's own small helpers of layer 14: ends, number, place. Conditions: a text is no longer than two million bytes. -/
namespace Go.Proofs
open Go.RowKit Go.Shelf Go.Hdr Go.Fx Go.Wds
attribute [local go_sem] Oper.semAt_some
theorem htext_beq (s : ByteArray) (l : List UInt8) : (s.toList == l) = decide (s = ⟨l.toArray⟩) := by
  rw [Bool.eq_iff_iff, beq_iff_eq, decide_eq_true_iff]
  rw [Lib.toList_data]
  constructor
  · intro h
    subst h
    cases s
    simp
  · intro h
    subst h
    rfl
theorem htext_ne {s t : ByteArray} (h : ¬ s = t) : (s.toList == t.toList) = false := by
  rw [beq_eq_false_iff_ne, Lib.toList_data, Lib.toList_data]
  intro e
  apply h
  cases s
  cases t
  simp only [ByteArray.mk.injEq]
  exact Array.toList_inj.1 e
set_option maxRecDepth 100000 in
theorem Tryz.rends_calls (s t : ByteArray) (w : World) (hs : s.size ≤ 2000000) (ht : t.size ≤ 2000000) :
    Calls Tryz.prog 14 #[.string s, .string t] w fun e w' => e = .returned (.bool (endsE s t)) ∧ w' = w := by
  by_cases h : t.size ≤ s.size
  · have d1 : decide ((s.size : Int) ≥ (t.size : Int)) = true := decide_eq_true (by omega)
    have d2 : decide ((t.size : Int) ≤ (s.size : Int)) = true := decide_eq_true (by omega)
    have k1 : ((s.size : Int) - (t.size : Int)) = ((s.size - t.size : Nat) : Int) := by omega
    by_cases he : s.extract (s.size - t.size) s.size = t
    · have HE := Lib.hid (show endsE s t = true by unfold endsE; rw [decide_eq_true h, decide_eq_true he]; rfl)
      go_enter Tryz.func14, Tryz.ntmps14
      go_wp2
      go_ret
      rw [HE.out]; exact ⟨rfl, rfl⟩
    · have HE := Lib.hid (show endsE s t = false by unfold endsE; rw [decide_eq_true h, decide_eq_false he]; rfl)
      have he2 := htext_ne he
      go_enter Tryz.func14, Tryz.ntmps14
      go_wp2
      go_ret
      rw [HE.out]; exact ⟨rfl, rfl⟩
  · have d1 : decide ((s.size : Int) ≥ (t.size : Int)) = false := decide_eq_false (by omega)
    have d2 : decide ((t.size : Int) ≤ (s.size : Int)) = false := decide_eq_false (by omega)
    have HE := Lib.hid (show endsE s t = false by unfold endsE; rw [decide_eq_false h]; rfl)
    go_enter Tryz.func14, Tryz.ntmps14
    go_wp2
    go_ret
    rw [HE.out]; exact ⟨rfl, rfl⟩
set_option maxRecDepth 100000 in
theorem Tryz.rnumber_calls (s : ByteArray) (most : Int) (w : World) (hs : s.size ≤ 2000000) :
    Calls Tryz.prog 38 #[.string s, .int .i64 most] w fun e w' => e = .returned (.int .i64 (numE s most)) ∧ w' = w := by
  have RI := fun w => Tryz.rInt_any s (by omega) w
  generalize hm : intR s.data.toList = p at RI
  obtain ⟨n, c⟩ := p
  have HN := Lib.hid (show numE s most = if c = 0 ∧ 1 ≤ n ∧ n ≤ most then n else 0 by unfold numE; rw [hm])
  clear hm
  go_enter Tryz.func38, Tryz.ntmps38
  by_cases h0 : c = 0
  · subst h0
    by_cases h1 : n < 1
    · have d1 : decide (n < 1) = true := decide_eq_true h1
      have HV := Lib.hid (show numE s most = 0 by rw [HN.out, if_neg (by omega)])
      clear HN
      go_wp2_with (go_at_call 58; (with_reducible refine (RI _).mono ?_); rintro e w1 ⟨rfl, hw1⟩; obtain rfl : w = w1 := hw1)
      go_ret
      rw [HV.out]; exact ⟨rfl, rfl⟩
    · have d1 : decide (n < 1) = false := decide_eq_false h1
      by_cases h2 : n > most
      · have d2 : decide (n > most) = true := decide_eq_true h2
        have HV := Lib.hid (show numE s most = 0 by rw [HN.out, if_neg (by omega)])
        clear HN
        go_wp2_with (go_at_call 58; (with_reducible refine (RI _).mono ?_); rintro e w1 ⟨rfl, hw1⟩; obtain rfl : w = w1 := hw1)
        go_ret
        rw [HV.out]; exact ⟨rfl, rfl⟩
      · have d2 : decide (n > most) = false := decide_eq_false h2
        have HV := Lib.hid (show numE s most = n by rw [HN.out, if_pos ⟨rfl, by omega, by omega⟩])
        clear HN
        go_wp2_with (go_at_call 58; (with_reducible refine (RI _).mono ?_); rintro e w1 ⟨rfl, hw1⟩; obtain rfl : w = w1 := hw1)
        go_ret
        rw [HV.out]; exact ⟨rfl, rfl⟩
  · have d0 : (c == 0) = false := by rw [beq_eq_false_iff_ne]; exact h0
    have d0' : (c != 0) = true := by rw [bne, d0]; rfl
    have HV := Lib.hid (show numE s most = 0 by rw [HN.out, if_neg (by omega)])
    clear HN
    go_wp2_with (go_at_call 58; (with_reducible refine (RI _).mono ?_); rintro e w1 ⟨rfl, hw1⟩; obtain rfl : w = w1 := hw1)
    go_ret
    rw [HV.out]; exact ⟨rfl, rfl⟩
theorem place_told (s : ByteArray) (k : Int) (h : hplaceE s = k) {w : World} : Ending.returned (Value.int .i64 k) = Ending.returned (Value.int .i64 (hplaceE s)) ∧ w = w := by subst h; exact ⟨rfl, rfl⟩
set_option maxRecDepth 100000 in
theorem Tryz.rplace_calls (s : ByteArray) (w : World) :
    Calls Tryz.prog 15 #[.string s] w fun e w' => e = .returned (.int .i64 (hplaceE s)) ∧ w' = w := by
  go_enter Tryz.func15, Tryz.ntmps15
  go_wp2
  all_goals
    simp only [htext_beq, decide_eq_true_eq, decide_eq_false_iff_not] at *
    go_ret
    refine place_told _ _ ?_
    unfold hplaceE hkName hkType hkDim hkCap hkMet hkLay
  all_goals simp_all
#print axioms Tryz.rends_calls
#print axioms Tryz.rnumber_calls
#print axioms Tryz.rplace_calls
end Go.Proofs
/- The document's own May of layer 14. Conditions: a name is no longer than two million bytes. -/
namespace Go.Proofs
open Go.RowKit Go.Shelf Go.Hdr Go.Fx Go.Wds
attribute [local go_sem] Oper.semAt_some
set_option linter.unusedSimpArgs false
theorem may_told (h : Hd) (b : Bool) (e : mayH h = b) {q : Prop} (hb : q) : Ending.returned (Value.bool b) = Ending.returned (Value.bool (mayH h)) ∧ q := by subst e; exact ⟨rfl, hb⟩
end Go.Proofs
/- The document's own put of layer 14. Conditions: a text is no longer than two million bytes. -/
namespace Go.Proofs
open Go.RowKit Go.Shelf Go.Hdr Go.Fx Go.Wds Go.Metric Go.Layout
attribute [local go_sem] Oper.semAt_some
theorem below_two_n (w : World) (o o' : Obj) : Below w.heap.size w ((w.alloc o).alloc o') := by
  have h : Below w.heap.size w (w.alloc o) := (Below.refl _ _).alloc (Nat.le_refl _) _
  exact h.alloc h.size o'
theorem below_two_h (w : World) (o o' : Obj) : Below w.heap.size w ((w.alloc o).alloc o').drew := by
  have h : Below w.heap.size w (w.alloc o) := (Below.refl _ _).alloc (Nat.le_refl _) _
  have h2 := h.alloc h.size o'
  exact ⟨h2.os, h2.tape, h2.output, h2.size, h2.block⟩
set_option maxRecDepth 100000 in
set_option maxHeartbeats 8000000 in
set_option linter.unusedVariables false in
theorem Tryz.rput2 (h : Hd) (v : ByteArray) (w : World) (hs : v.size ≤ 2000000) :
    Calls Tryz.prog 16 #[hdV h, .int .i64 2, .string v] w fun e w' => e = .returned (.tuple #[hdV (putE h 2 v).1, .bool (putE h 2 v).2]) ∧ Below w.heap.size w w' := by
  obtain ⟨nm, k, d, c, m, l⟩ := h
  have e : putE ⟨nm, k, d, c, m, l⟩ 2 v = ({ (⟨nm, k, d, c, m, l⟩ : Hd) with dim := numE v 400 }, decide (0 < numE v 400)) := rfl
  rw [e]
  clear e
  unfold hdV
  have RN := fun w => Tryz.rnumber_calls v 400 w hs
  generalize hn : numE v 400 = n at RN
  clear hn
  go_enter Tryz.func16, Tryz.ntmps16
  go_wp2_with (go_at_call 38; (with_reducible refine (RN _).mono ?_); rintro e w1 ⟨rfl, hw1⟩; subst hw1)
  go_region
  go_wp2
  refine bodyPost_ret (v := .tuple #[.agg #[.string nm, .int .i64 k, .int .i64 n, .int .i64 c, .int .i64 m, .int .i64 l], .bool (decide (0 < n))]) (by simp [results, Tryz.results16, go_sem]) rfl ⟨rfl, ?_⟩
  exact below_two_h _ _ _
set_option maxRecDepth 100000 in
set_option maxHeartbeats 8000000 in
set_option linter.unusedVariables false in
theorem Tryz.rput3 (h : Hd) (v : ByteArray) (w : World) (hs : v.size ≤ 2000000) :
    Calls Tryz.prog 16 #[hdV h, .int .i64 3, .string v] w fun e w' => e = .returned (.tuple #[hdV (putE h 3 v).1, .bool (putE h 3 v).2]) ∧ Below w.heap.size w w' := by
  obtain ⟨nm, k, d, c, m, l⟩ := h
  have e : putE ⟨nm, k, d, c, m, l⟩ 3 v = ({ (⟨nm, k, d, c, m, l⟩ : Hd) with cap := numE v 100000000 }, decide (0 < numE v 100000000)) := rfl
  rw [e]
  clear e
  unfold hdV
  have RN := fun w => Tryz.rnumber_calls v 100000000 w hs
  generalize hn : numE v 100000000 = n at RN
  clear hn
  go_enter Tryz.func16, Tryz.ntmps16
  go_wp2_with (go_at_call 38; (with_reducible refine (RN _).mono ?_); rintro e w1 ⟨rfl, hw1⟩; subst hw1)
  go_region
  go_wp2
  refine bodyPost_ret (v := .tuple #[.agg #[.string nm, .int .i64 k, .int .i64 d, .int .i64 n, .int .i64 m, .int .i64 l], .bool (decide (0 < n))]) (by simp [results, Tryz.results16, go_sem]) rfl ⟨rfl, ?_⟩
  exact below_two_h _ _ _
set_option maxRecDepth 100000 in
set_option maxHeartbeats 8000000 in
set_option linter.unusedVariables false in
theorem Tryz.rput5 (h : Hd) (v : ByteArray) (w : World) (hs : v.size ≤ 2000000) :
    Calls Tryz.prog 16 #[hdV h, .int .i64 5, .string v] w fun e w' => e = .returned (.tuple #[hdV (putE h 5 v).1, .bool (putE h 5 v).2]) ∧ Below w.heap.size w w' := by
  obtain ⟨nm, k, d, c, m, l⟩ := h
  have e : putE ⟨nm, k, d, c, m, l⟩ 5 v = ({ (⟨nm, k, d, c, m, l⟩ : Hd) with lay := lofR v }, decide (0 < lofR v)) := rfl
  rw [e]
  clear e
  unfold hdV
  have RN := fun w => Tryz.RLOf_calls v w
  generalize hn : lofR v = n at RN
  clear hn
  go_enter Tryz.func16, Tryz.ntmps16
  go_wp2_with (go_at_call 40; (with_reducible refine (RN _).mono ?_); rintro e w1 ⟨rfl, hw1⟩; subst hw1)
  go_region
  go_wp2
  refine bodyPost_ret (v := .tuple #[.agg #[.string nm, .int .i64 k, .int .i64 d, .int .i64 c, .int .i64 m, .int .i64 n], .bool (decide (0 < n))]) (by simp [results, Tryz.results16, go_sem]) rfl ⟨rfl, ?_⟩
  exact below_two_h _ _ _
set_option maxRecDepth 100000 in
set_option maxHeartbeats 8000000 in
set_option linter.unusedVariables false in
theorem Tryz.rput4 (h : Hd) (v : ByteArray) (w : World) (hs : v.size ≤ 2000000) :
    Calls Tryz.prog 16 #[hdV h, .int .i64 4, .string v] w fun e w' => e = .returned (.tuple #[hdV (putE h 4 v).1, .bool (putE h 4 v).2]) ∧ Below w.heap.size w w' := by
  obtain ⟨nm, k, d, c, m, l⟩ := h
  have e : putE ⟨nm, k, d, c, m, l⟩ 4 v = ({ (⟨nm, k, d, c, m, l⟩ : Hd) with met := (ofR v).1 }, (ofR v).2) := rfl
  rw [e]
  clear e
  unfold hdV
  have RN := fun w => Tryz.ROf_calls v w
  generalize hn : ofR v = p at RN
  obtain ⟨n, b⟩ := p
  clear hn
  go_enter Tryz.func16, Tryz.ntmps16
  go_wp2_with (go_at_call 39; (with_reducible refine (RN _).mono ?_); rintro e w1 ⟨rfl, hw1⟩; subst hw1)
  refine bodyPost_ret (v := .tuple #[.agg #[.string nm, .int .i64 k, .int .i64 d, .int .i64 c, .int .i64 n, .int .i64 l], .bool b]) (by simp [results, Tryz.results16, go_sem]) rfl ⟨rfl, ?_⟩
  exact below_two_n _ _ _
set_option maxRecDepth 100000 in
set_option maxHeartbeats 8000000 in
set_option linter.unusedVariables false in
theorem Tryz.rput0 (h : Hd) (v : ByteArray) (w : World) (hs : v.size ≤ 2000000) :
    Calls Tryz.prog 16 #[hdV h, .int .i64 0, .string v] w fun e w' => e = .returned (.tuple #[hdV (putE h 0 v).1, .bool (putE h 0 v).2]) ∧ Below w.heap.size w w' := by
  obtain ⟨nm, k, d, c, m, l⟩ := h
  have e : putE ⟨nm, k, d, c, m, l⟩ 0 v = ({ (⟨nm, k, d, c, m, l⟩ : Hd) with name := v }, nameL v.data.toList) := rfl
  rw [e]
  clear e
  unfold hdV
  have RN := fun w => Tryz.rName_calls v w (Nat.le_trans hs (by decide))
  generalize hn : nameL v.data.toList = b at RN
  clear hn
  go_enter Tryz.func16, Tryz.ntmps16
  go_wp2
  go_region_with (go_at_call 37; (with_reducible refine (RN _).mono ?_); rintro e w1 ⟨rfl, hw1⟩; subst hw1)
  all_goals
    go_wp2
    refine bodyPost_ret (v := .tuple #[.agg #[.string v, .int .i64 k, .int .i64 d, .int .i64 c, .int .i64 m, .int .i64 l], .bool b]) (by simp [results, Tryz.results16, go_sem]) rfl ⟨rfl, ?_⟩
    exact below_two_h _ _ _
set_option maxRecDepth 100000 in
set_option maxHeartbeats 8000000 in
theorem Tryz.rput1 (h : Hd) (v : ByteArray) (w : World) :
    Calls Tryz.prog 16 #[hdV h, .int .i64 1, .string v] w fun e w' => e = .returned (.tuple #[hdV (putE h 1 v).1, .bool (putE h 1 v).2]) ∧ Below w.heap.size w w' := by
  obtain ⟨nm, k, d, c, m, l⟩ := h
  by_cases h2 : v = hkCvrp
  · have e : putE ⟨nm, k, d, c, m, l⟩ 1 v = (⟨nm, 2, d, c, m, l⟩, true) := by subst h2; rfl
    rw [e]
    clear e
    subst h2
    unfold hdV hkCvrp
    go_enter Tryz.func16, Tryz.ntmps16
    go_wp2
    go_region
    go_wp2
    refine bodyPost_ret (v := .tuple #[.agg #[.string nm, .int .i64 2, .int .i64 d, .int .i64 c, .int .i64 m, .int .i64 l], .bool true]) (by simp [results, Tryz.results16, go_sem]) rfl ⟨rfl, ?_⟩
    exact below_two_h _ _ _
  · by_cases h1 : v = hkTsp
    · have e : putE ⟨nm, k, d, c, m, l⟩ 1 v = (⟨nm, 1, d, c, m, l⟩, true) := by subst h1; rfl
      rw [e]
      clear e h2
      subst h1
      unfold hdV hkTsp
      go_enter Tryz.func16, Tryz.ntmps16
      go_wp2
      go_region
      go_wp2
      refine bodyPost_ret (v := .tuple #[.agg #[.string nm, .int .i64 1, .int .i64 d, .int .i64 c, .int .i64 m, .int .i64 l], .bool true]) (by simp [results, Tryz.results16, go_sem]) rfl ⟨rfl, ?_⟩
      exact below_two_h _ _ _
    · have e : putE ⟨nm, k, d, c, m, l⟩ 1 v = (⟨nm, k, d, c, m, l⟩, decide (0 < k)) := by
        unfold putE
        simp only [if_neg h2, if_neg h1]
        rfl
      rw [e]
      clear e
      have n1 : (v.toList == [84, 83, 80]) = false := by rw [htext_beq]; exact decide_eq_false h1
      have n2 : (v.toList == [67, 86, 82, 80]) = false := by rw [htext_beq]; exact decide_eq_false h2
      clear h1 h2
      unfold hdV
      go_enter Tryz.func16, Tryz.ntmps16
      go_wp2
      go_region
      go_wp2
      refine bodyPost_ret (v := .tuple #[.agg #[.string nm, .int .i64 k, .int .i64 d, .int .i64 c, .int .i64 m, .int .i64 l], .bool (decide (0 < k))]) (by simp [results, Tryz.results16, go_sem]) rfl ⟨rfl, ?_⟩
      exact below_two_h _ _ _
theorem Tryz.rput_calls (h : Hd) (k : Int) (hk0 : 0 ≤ k) (hk5 : k ≤ 5) (v : ByteArray) (w : World) (hs : v.size ≤ 2000000) :
    Calls Tryz.prog 16 #[hdV h, .int .i64 k, .string v] w fun e w' => e = .returned (.tuple #[hdV (putE h k v).1, .bool (putE h k v).2]) ∧ Below w.heap.size w w' := by
  rcases (show k = 0 ∨ k = 1 ∨ k = 2 ∨ k = 3 ∨ k = 4 ∨ k = 5 by omega) with rfl | rfl | rfl | rfl | rfl | rfl
  · exact Tryz.rput0 h v w hs
  · exact Tryz.rput1 h v w
  · exact Tryz.rput2 h v w hs
  · exact Tryz.rput3 h v w hs
  · exact Tryz.rput4 h v w hs
  · exact Tryz.rput5 h v w hs
#print axioms Tryz.rput_calls
end Go.Proofs
/- The document's own Parse of layer 14. Conditions: a text of at most a million bytes. -/
namespace Go.Hdr
open Go.Wds Go.Proofs Go.Cur Go.Fx Go.Metric Go.Layout
/-- The six cells of a head. -/
def hdC (h : Hd) : Array Value := #[.string h.name, .int .i64 h.kind, .int .i64 h.dim, .int .i64 h.cap, .int .i64 h.met, .int .i64 h.lay]
def cmC (c : Nat → Bool) : Array Value := #[.bool (c 0), .bool (c 1), .bool (c 2), .bool (c 3), .bool (c 4), .bool (c 5)]
theorem rowsE14_cons (s : ByteArray) (r : Nat × Nat × Nat) (l : List (Nat × Nat × Nat)) (p : Pr) : rowsE14 s (r :: l) p = match rowE s p r with
    | .stop => .inr (p, r.1)
    | .bad a c => .inl (a, c)
    | .go q => rowsE14 s l q := by
  conv => lhs; unfold rowsE14
  all_goals (cases rowE s p r <;> rfl)
end Go.Hdr
namespace Go
open Go.RowKit
/-- A box of six cells, filled. -/
theorem six_own {W : World} {B : Nat} {x0 x1 x2 x3 x4 x5 v0 v1 v2 v3 v4 v5 : Value} {t : TypeId} (h : W.heap[B]? = some (.cells #[x0, x1, x2, x3, x4, x5] t)) : ((((((W.setCell ⟨B, 0, none⟩ v0).setCell ⟨B, 1, none⟩ v1).setCell ⟨B, 2, none⟩ v2).setCell ⟨B, 3, none⟩ v3).setCell ⟨B, 4, none⟩ v4).setCell ⟨B, 5, none⟩ v5).heap[B]? = some (.cells #[v0, v1, v2, v3, v4, v5] t) := by
  simp [World.setCell, Array.getElem?_modify, h]
theorem six_other {W : World} {B k : Nat} {v0 v1 v2 v3 v4 v5 : Value} (hk : k ≠ B) : ((((((W.setCell ⟨B, 0, none⟩ v0).setCell ⟨B, 1, none⟩ v1).setCell ⟨B, 2, none⟩ v2).setCell ⟨B, 3, none⟩ v3).setCell ⟨B, 4, none⟩ v4).setCell ⟨B, 5, none⟩ v5).heap[k]? = W.heap[k]? := by
  iterate 6 rw [Below.heap_setCell _ _ _ _ (by exact hk)]
theorem six_size {W : World} {B : Nat} {v0 v1 v2 v3 v4 v5 : Value} : ((((((W.setCell ⟨B, 0, none⟩ v0).setCell ⟨B, 1, none⟩ v1).setCell ⟨B, 2, none⟩ v2).setCell ⟨B, 3, none⟩ v3).setCell ⟨B, 4, none⟩ v4).setCell ⟨B, 5, none⟩ v5).heap.size = W.heap.size := by
  simp [World.setCell]
theorem six_below {N : Nat} {w W : World} {B : Nat} {v0 v1 v2 v3 v4 v5 : Value} (h : Below N w W) (hN : N ≤ B) : Below N w ((((((W.setCell ⟨B, 0, none⟩ v0).setCell ⟨B, 1, none⟩ v1).setCell ⟨B, 2, none⟩ v2).setCell ⟨B, 3, none⟩ v3).setCell ⟨B, 4, none⟩ v4).setCell ⟨B, 5, none⟩ v5) :=
  (((((h.setCell hN _).setCell hN _).setCell hN _).setCell hN _).setCell hN _).setCell hN _
end Go
namespace Go.Proofs
open Go.RowKit Go.Shelf Go.Hdr Go.Fx Go.Wds Go.Metric Go.Layout Go.Cur
attribute [local go_sem] Oper.semAt_some
/-- Parse's boxes, its rows, and what was taken. -/
structure HqS (w : World) (s : ByteArray) (n : Nat) (lv : Value) (p : Pr) (W : World) : Prop where
  below : Below w.heap.size w W
  res : W.heap[w.heap.size]? = some (.cells (hdC hd0) 30)
  dg : W.heap[w.heap.size + 1]? = some (.cells #[.int .i64 0, .int .i64 0] 27)
  hd : W.heap[w.heap.size + 1 + 1]? = some (.cells (hdC p.h) 30)
  cm : W.heap[w.heap.size + 1 + 1 + 1]? = some (.cells (cmC p.c) 45)
  lines : W.ownsRow (w.heap.size + 4) 52 3 lv n (lineCells (rowsOf s.data.toList))
theorem HqS.lt {w W : World} {s : ByteArray} {n : Nat} {lv : Value} {p : Pr} (h : HqS w s n lv p W) : w.heap.size + 4 ≤ W.heap.size := (Array.getElem?_eq_some_iff.1 h.cm).1
theorem HqS.next {w W W' : World} {s : ByteArray} {n : Nat} {lv : Value} {p : Pr} (h : HqS w s n lv p W) (hb : Below W.heap.size W W') : HqS w s n lv p W' := by
  have hl := h.lt
  exact ⟨h.below.trans (hb.mono h.below.size), (hb.block _ (by omega)).trans h.res, (hb.block _ (by omega)).trans h.dg, (hb.block _ (by omega)).trans h.hd, (hb.block _ (by omega)).trans h.cm, ownsRow_below h.lines hb (Nat.le_refl _)⟩
theorem HqS.drew {w W : World} {s : ByteArray} {n : Nat} {lv : Value} {p : Pr} (h : HqS w s n lv p W) : HqS w s n lv p W.drew := h.next ⟨rfl, rfl, rfl, Nat.le_refl _, fun _ _ => rfl⟩
theorem own_set_h {W : World} {base : Nat} {e : TypeId} {size : Nat} {v : Value} {k : Nat} {xs : List Value} (h : W.ownsRow base e size v k xs) {a : Addr} (ha : a.block < base) (u : Value) : (W.setCell a u).ownsRow base e size v k xs :=
  h.kept (row := some a.block) ⟨rfl, rfl, rfl, by simp [World.setCell], fun k _ hk => Below.heap_setCell _ _ _ _ (fun e => hk (by rw [e]))⟩ (.inr fun e => by have := (h.lt _ e).1; omega)
theorem HqS.head {w W : World} {s : ByteArray} {n : Nat} {lv : Value} {p : Pr} (h : HqS w s n lv p W) (g : Hd) : HqS w s n lv ⟨g, p.c⟩ ((((((W.setCell ⟨w.heap.size + 1 + 1, 0, none⟩ (.string g.name)).setCell ⟨w.heap.size + 1 + 1, 1, none⟩ (.int .i64 g.kind)).setCell ⟨w.heap.size + 1 + 1, 2, none⟩ (.int .i64 g.dim)).setCell ⟨w.heap.size + 1 + 1, 3, none⟩ (.int .i64 g.cap)).setCell ⟨w.heap.size + 1 + 1, 4, none⟩ (.int .i64 g.met)).setCell ⟨w.heap.size + 1 + 1, 5, none⟩ (.int .i64 g.lay)) := by
  have hs := fun k (hk : k ≠ w.heap.size + 1 + 1) => six_other (W := W) (B := w.heap.size + 1 + 1) (k := k) (v0 := .string g.name) (v1 := .int .i64 g.kind) (v2 := .int .i64 g.dim) (v3 := .int .i64 g.cap) (v4 := .int .i64 g.met) (v5 := .int .i64 g.lay) hk
  refine ⟨six_below h.below (by omega), (hs _ (by omega)).trans h.res, (hs _ (by omega)).trans h.dg, six_own h.hd, (hs _ (by omega)).trans h.cm, ?_⟩
  exact own_set_h (own_set_h (own_set_h (own_set_h (own_set_h (own_set_h h.lines (by simp only; omega) _) (by simp only; omega) _) (by simp only; omega) _) (by simp only; omega) _) (by simp only; omega) _) (by simp only; omega) _
theorem HqS.came {w W : World} {s : ByteArray} {n : Nat} {lv : Value} {p : Pr} (h : HqS w s n lv p W) {k : Nat} (hk : k ≤ 5) : HqS w s n lv ⟨p.h, fun i => p.c i || decide (i = k)⟩ (W.setCell ⟨w.heap.size + 1 + 1 + 1, k, none⟩ (.bool true)) := by
  have hs := fun j (hj : j ≠ w.heap.size + 1 + 1 + 1) => Below.heap_setCell W ⟨w.heap.size + 1 + 1 + 1, k, none⟩ (.bool true) j hj
  refine ⟨h.below.setCell (by simp only; omega) _, (hs _ (by omega)).trans h.res, (hs _ (by omega)).trans h.dg, (hs _ (by omega)).trans h.hd, ?_, own_set_h h.lines (by simp only; omega) _⟩
  have hc := h.cm
  unfold cmC at hc ⊢
  rcases (show k = 0 ∨ k = 1 ∨ k = 2 ∨ k = 3 ∨ k = 4 ∨ k = 5 by omega) with rfl | rfl | rfl | rfl | rfl | rfl
  all_goals simp [World.setCell, Array.getElem?_modify, hc]
theorem hbox_cell {W : World} {B : Nat} {cs : Array Value} {t : TypeId} (h : W.heap[B]? = some (.cells cs t)) (j : Nat) : W.cell? ⟨B, j, none⟩ = cs[j]? ∧ W.frozen? ⟨B, j, none⟩ = false := by
  refine ⟨?_, ?_⟩
  · unfold World.cell?; rw [h]; rfl
  · unfold World.frozen?; rw [h]; rfl
theorem hline_cells {W : World} {base g n c : Nat} {e : TypeId} {L : List (Nat × Nat × Nat)} (h : W.ownsRow base e 3 (.slice (some ⟨g, 0, none⟩) n c) L.length (lineCells L)) {k a b d : Nat} (hk : L[k]? = some (a, b, d)) :
    W.cell? ⟨g, k * 3, none⟩ = some (.int .i64 (a : Nat)) ∧ W.cell? ⟨g, k * 3 + 1, none⟩ = some (.int .i64 (b : Nat)) := by
  have hc := World.ownsRow.cells h (g := g) rfl
  have hg : ∀ (L : List (Nat × Nat × Nat)) (k : Nat), L[k]? = some (a, b, d) → (lineCells L)[k * 3]? = some (.int .i64 (a : Nat)) ∧ (lineCells L)[k * 3 + 1]? = some (.int .i64 (b : Nat)) := by
    intro L
    induction L with
    | nil => intro k hk; simp at hk
    | cons p L ih =>
      intro k hk
      cases k with
      | zero =>
        have e : p = (a, b, d) := by simpa using hk
        subst e
        exact ⟨rfl, rfl⟩
      | succ k =>
        have := ih k (by simpa using hk)
        have e : ∀ j, (lineCells (p :: L))[(k + 1) * 3 + j]? = (lineCells L)[k * 3 + j]? := fun j => by
          rw [show (k + 1) * 3 + j = (k * 3 + j) + 1 + 1 + 1 from by omega]; rfl
        exact ⟨(e 0).trans this.1, (e 1).trans this.2⟩
  obtain ⟨h1, h2⟩ := hg L k hk
  have h3 := hc _ _ h1
  have h4 := hc _ _ h2
  rw [Addr.add_lit, Nat.zero_add] at h3 h4
  exact ⟨h3, h4⟩
end Go.Proofs
