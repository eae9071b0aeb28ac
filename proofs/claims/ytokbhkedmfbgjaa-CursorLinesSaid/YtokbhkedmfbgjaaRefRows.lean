/- The document's own Blank and Rows of this program, as contracts. Conditions: a text of at most a million bytes; a part that lies in it. -/
import Derived.Test.YtokbhkedmfbgjaaRefMore
namespace Go.Cur
theorem cutL_step {l : List UInt8} {k b : Nat} {c : UInt8} (hk : k < b) (hc : l[k]? = some c) : blankL (cutL l k b) = ((c == 32 || c == 9) && blankL (cutL l (k + 1) b)) := by
  obtain ⟨hl, rfl⟩ := List.getElem?_eq_some_iff.1 hc
  unfold cutL
  rw [List.extract_eq_take_drop, List.extract_eq_take_drop, List.drop_eq_getElem_cons hl, show b - k = (b - (k + 1)) + 1 from by omega, List.take_succ_cons]
  rfl
theorem cutL_end (l : List UInt8) (b : Nat) : blankL (cutL l b b) = true := by
  unfold cutL
  rw [List.extract_eq_take_drop, Nat.sub_self, List.take_zero]; rfl
end Go.Cur
namespace Go.Proofs
open Go.RowKit Go.Shelf Go.Cur

set_option maxRecDepth 100000 in
set_option maxHeartbeats 1000000 in
theorem Try.rBlank_calls (s : ByteArray) (a b c : Nat) (w : World) (hs : s.size ≤ 1000000) (hab : a ≤ b) (hbl : b ≤ s.size) :
    Calls Try.prog 17 #[.string s, .agg #[.int .i64 (a : Nat), .int .i64 (b : Nat), .int .i64 (c : Nat)]] w fun e w' => e = .returned (.bool (blankL (cutL s.data.toList a b))) ∧ Below w.heap.size w w' := by
  go_enter Try.func17, Try.ntmps17
  go_wp2
  go_loop [5] (fun v => ∃ k : Nat, a ≤ k ∧ k ≤ b ∧ v = .int .i64 (k : Int) ∧ blankL (cutL s.data.toList a b) = blankL (cutL s.data.toList k b)) (fun v => b - (intOf v).toNat)
  case atStart => exact ⟨a, Nat.le_refl _, hab, rfl, rfl⟩
  case round =>
    obtain ⟨k, hak, hkb, rfl, hbk⟩ := hrel
    have hB : Below w.heap.size w (w.alloc (Obj.cells #[Value.int IntKind.i64 (a : Nat), Value.int IntKind.i64 (b : Nat), Value.int IntKind.i64 (c : Nat)] 33)) := (Below.refl _ w).alloc (Nat.le_refl _) _
    by_cases hlt : k < b
    · have hks : k < s.size := by omega
      rw [cutL_step hlt (list_get s k hks)] at hbk
      by_cases hb : (s[k]'hks == 32 || s[k]'hks == 9) = true
      · rw [hb, Bool.true_and] at hbk
        have Hb := Lib.hid hbk
        have hpart : (((s[k]'hks).toNat : Int) != 32) = false ∨ ((((s[k]'hks).toNat : Int) != 32) = true ∧ (((s[k]'hks).toNat : Int) != 9) = false) := by
          by_cases h1 : s[k]'hks = 32
          · exact .inl (by rw [h1]; rfl)
          · have h2 : s[k]'hks = 9 := by
              rw [Bool.or_eq_true, beq_iff_eq, beq_iff_eq] at hb
              exact hb.resolve_left h1
            exact .inr ⟨by rw [h2]; rfl, by rw [h2]; rfl⟩
        clear hbk hb
        rcases hpart with h32 | ⟨h32, h9⟩
        all_goals
          go_wp2
          go_round
          case rel => exact ⟨k + 1, by omega, by omega, by go_num, Hb.out⟩
          case measure => simp [intOf]; omega
      · have hb' : (s[k]'hks == 32 || s[k]'hks == 9) = false := by simpa using hb
        rw [hb', Bool.false_and] at hbk
        have Hb := Lib.hid hbk
        rw [Bool.or_eq_false_iff, beq_eq_false_iff_ne, beq_eq_false_iff_ne] at hb'
        have h32 : (((s[k]'hks).toNat : Int) != 32) = true := by
          rw [bne_iff_ne]
          intro e
          exact hb'.1 (UInt8.toNat_inj.1 (by have e' : (s[k]'hks).toNat = 32 := by omega
                                             exact e'))
        have h9 : (((s[k]'hks).toNat : Int) != 9) = true := by
          rw [bne_iff_ne]
          intro e
          exact hb'.2 (UInt8.toNat_inj.1 (by have e' : (s[k]'hks).toNat = 9 := by omega
                                             exact e'))
        clear hbk hb hb'
        go_wp2
        go_ret
        rw [Hb.out]
        exact ⟨rfl, hB⟩
    · have hkk : k = b := by omega
      subst hkk
      rw [cutL_end] at hbk
      have Hb := Lib.hid hbk
      clear hbk
      go_wp2
      go_ret
      rw [Hb.out]
      exact ⟨rfl, hB⟩

theorem ownsRow_base {w : World} {base base' : Nat} {e : TypeId} {size : Nat} {v : Value} {k : Nat} {xs : List Value} (h : w.ownsRow base e size v k xs) (hb : base' ≤ base) : w.ownsRow base' e size v k xs := by
  refine ⟨h.1, h.2.imp id ?_⟩
  rintro ⟨g, cap, cur, h1, h2, h3⟩
  exact ⟨g, cap, cur, h1, Nat.le_trans hb h2, h3⟩
/-- A list of lines that is as it was begun, or lies in new memory. -/
def OwnOr (b0 b1 : Nat) (wr : World) (v : Value) (q : List (Nat × Nat × Nat)) : Prop := (q = [] ∧ v = .slice (some ⟨b0, 0, none⟩) 0 0) ∨ wr.ownsRow b1 33 3 v q.length (lineCells q)

set_option maxRecDepth 100000 in
set_option maxHeartbeats 1000000 in
theorem Try.rRows_calls (s : ByteArray) (w : World) (hs : s.size ≤ 1000000) :
    Calls Try.prog 15 #[.string s] w fun e w' => ∃ v, e = .returned v ∧ w'.ownsRow w.heap.size 33 3 v (rowsOf s.data.toList).length (lineCells (rowsOf s.data.toList)) ∧ Below w.heap.size w w' := by
  obtain ⟨i0, hi, hz0, hz1, hz2⟩ := info_parts Try.info33
  have HI := Lib.hid hi
  have hln := lines_len s
  clear hi
  go_enter Try.func15, Try.ntmps15
  go_wp2_with (go_at_call 11; refine (Try.rLines_calls s _ hs).mono ?_; rintro e w1 ⟨v, rfl, h1, h2⟩)
  have hv := hasLines_of_owns h1
  have hB1 : Below w.heap.size w w1 := (((Below.refl _ w).alloc (Nat.le_refl _) (.cells #[] 33)).trans (h2.mono (by simp)))
  have hown1 : w1.ownsRow w.heap.size 33 3 (.slice (some ⟨w.heap.size, 0, none⟩) 0 0) 0 [] := ownsRow_below (owns_empty w 33) h2 (Nat.le_refl _)
  clear h1 h2
  rcases hv.split with ⟨hnil, ao, cap, rfl⟩ | ⟨hpos, g, cap, rfl, hg⟩
  · have hro : rowsOf s.data.toList = [] := by unfold rowsOf; rw [hnil]; rfl
    have HR := Lib.hid hro
    clear hv hro hnil
    go_loopw [3, 5] (fun v' i wr => i = .int .i64 0 ∧ wr.ownsRow w.heap.size 33 3 v' 0 [] ∧ Below w.heap.size w wr) (fun _ _ _ => 0)
    case atStart => exact ⟨rfl, hown1, hB1⟩
    case round =>
      obtain ⟨rfl, hown, hB⟩ := hrel
      go_wp2
      go_ret
      rw [HR.out]
      exact ⟨_, rfl, hown, hB⟩
  · have HV := Lib.hid hv
    clear hv
    go_loopw [3, 5] (fun v' i wr => ∃ k : Nat, k ≤ (lines s.data.toList).length ∧ i = .int .i64 (k : Int) ∧ OwnOr w.heap.size w1.heap.size wr v' (((lines s.data.toList).take k).filter (bare s.data.toList)) ∧ Below w1.heap.size w1 wr) (fun _ i _ => (lines s.data.toList).length - (intOf i).toNat)
    case atStart => exact ⟨0, Nat.zero_le _, rfl, .inl ⟨rfl, rfl⟩, Below.refl _ _⟩
    case round =>
      obtain ⟨k, hk, rfl, hown, hBw⟩ := hrel
      have hB2 : w1.heap.size ≤ wr.heap.size := hBw.size
      by_cases hlt : k < (lines s.data.toList).length
      · obtain ⟨⟨a, b, c⟩, hp⟩ : ∃ p, (lines s.data.toList)[k]? = some p := ⟨_, List.getElem?_eq_getElem hlt⟩
        obtain ⟨_, x0, x1, x2⟩ := HV.out.at hp
        replace x0 := (hBw.cell (p := ⟨g, k * 3, none⟩) hg).trans x0
        replace x1 := (hBw.cell (p := ⟨g, k * 3 + 1, none⟩) hg).trans x1
        replace x2 := (hBw.cell (p := ⟨g, k * 3 + 2, none⟩) hg).trans x2
        have hgr : g < wr.heap.size := Nat.lt_of_lt_of_le hg hBw.size
        obtain ⟨hab, hbl, _, _⟩ := lines_get hp
        have hbl' : b ≤ s.size := by simpa using hbl
        have hstep := rows_step hp
        have hcall := fun w1 : World => Try.rBlank_calls s a b c w1 hs hab hbl'
        have hfl : (((lines s.data.toList).take k).filter (bare s.data.toList)).length ≤ s.size + 1 := by
          have h1 := List.length_filter_le (bare s.data.toList) ((lines s.data.toList).take k)
          have h3 : ((lines s.data.toList).take k).length ≤ (lines s.data.toList).length := by rw [List.length_take]; omega
          omega
        have HO := Lib.hid hown
        clear hown
        cases hbk : blankL (cutL s.data.toList a b) with
        | true =>
          rw [hbk] at hcall
          have hbare : bare s.data.toList (a, b, c) = false := by simp [bare, hbk]
          rw [if_neg (by rw [hbare]; simp), List.append_nil] at hstep
          have HC := Lib.hid hcall
          have HS := Lib.hid hstep
          clear hcall hstep hbare hbk hp hfl hab hbl
          go_wp2_with (go_at_call 17; refine (HC.out _).mono ?_; rintro e w2 ⟨rfl, hb2⟩)
          go_roundw
          case rel => exact ⟨k + 1, by omega, by go_num, by rw [HS.out]; exact HO.out.imp id (fun h => ownsRow_below h hb2 (Nat.le_refl _)), hBw.trans (hb2.mono hB2)⟩
          case measure => simp [intOf]; omega
        | false =>
          rw [hbk] at hcall
          have hbare : bare s.data.toList (a, b, c) = true := by simp [bare, hbk]
          rw [if_pos hbare] at hstep
          have HC := Lib.hid hcall
          have HS := Lib.hid hstep
          clear hcall hstep hbare hbk hp hab hbl
          generalize ((lines s.data.toList).take k).filter (bare s.data.toList) = q at *
          have hml : q.length + 1 ≤ maxLen := by unfold maxLen; omega
          have hml2 : (q.length + 1) * 24 ≤ 140737488355328 := by omega
          clear hfl
          rcases HO.out with ⟨hq, rfl⟩ | hown
          · have HQ := Lib.hid hq
            clear hq hml hml2
            go_wp2_with (first | (go_at_call 17; refine (HC.out _).mono ?_; rintro e w2 ⟨rfl, hb2⟩; have y4 := hBw.trans (hb2.mono hB2); have z0 := (hb2.cell (p := ⟨g, k * 3, none⟩) hgr).trans x0; have z1 := (hb2.cell (p := ⟨g, k * 3 + 1, none⟩) hgr).trans x1; have z2 := (hb2.cell (p := ⟨g, k * 3 + 2, none⟩) hgr).trans x2) | (at_builtin; refine wpList_append_grows _ rfl _ _ 25 rfl 33 i0 (.agg #[.int .i64 0, .int .i64 0, .int .i64 0]) 3 24 Try.underlying25 HI.out hz0 hz1 hz2 rfl (by decide) (some ⟨w.heap.size, 0, none⟩) 0 0 [] rfl (fun h => by cases h) rfl (fun b h j u hu => by cases hu) ⟨w2.heap.size, 0, none⟩ 1 1 [.int .i64 (a : Nat), .int .i64 (b : Nat), .int .i64 (c : Nat)] rfl rfl (cells_new w2 #[.int .i64 (a : Nat), .int .i64 (b : Nat), .int .i64 (c : Nat)] 33) (by simp [Value.oneCell']) (by decide) (by unfold maxLen; decide) (by decide) ?_; intro v' w3 hown' hgrow))
            go_roundw
            case rel =>
              refine ⟨k + 1, by omega, by go_num, .inr ?_, (y4.alloc y4.size _).grown hgrow (by simp; have := y4.size; omega) (fun k e => by cases e)⟩
              rw [HS.out, HQ.out]
              exact ownsRow_base hown' (by simp; have := y4.size; omega)
            case measure => simp [intOf]; omega
          · go_wp2_with (first | (go_at_call 17; refine (HC.out _).mono ?_; rintro e w2 ⟨rfl, hb2⟩; have y2 := ownsRow_below hown hb2 (Nat.le_refl _); have y4 := hBw.trans (hb2.mono hB2); have z0 := (hb2.cell (p := ⟨g, k * 3, none⟩) hgr).trans x0; have z1 := (hb2.cell (p := ⟨g, k * 3 + 1, none⟩) hgr).trans x1; have z2 := (hb2.cell (p := ⟨g, k * 3 + 2, none⟩) hgr).trans x2) | (at_builtin; refine wpList_append_own _ rfl _ _ 25 rfl w1.heap.size 33 i0 (.agg #[.int .i64 0, .int .i64 0, .int .i64 0]) 3 24 Try.underlying25 HI.out hz0 hz1 hz2 rfl (by decide) _ _ _ rfl (y2.alloc _) ⟨w2.heap.size, 0, none⟩ 1 1 [.int .i64 (a : Nat), .int .i64 (b : Nat), .int .i64 (c : Nat)] rfl rfl (cells_new w2 #[.int .i64 (a : Nat), .int .i64 (b : Nat), .int .i64 (c : Nat)] 33) (by simp [Value.oneCell']) hml hml2 (by have := y4.size; simp; omega) ?_; intro v' w3 hown' hgrow _))
            go_roundw
            case rel => exact ⟨k + 1, by omega, by go_num, .inr (by rw [HS.out, lineCells_snoc, List.length_append]; exact hown'), grown_below y4 y4.size y2 hgrow⟩
            case measure => simp [intOf]; omega
      · have hkk : k = (lines s.data.toList).length := by omega
        subst hkk
        rw [List.take_length] at hown
        have HO := Lib.hid hown
        clear hown
        go_wp2
        go_ret
        refine ⟨_, rfl, ?_, hB1.trans (hBw.mono hB1.size)⟩
        rcases HO.out with ⟨hq, rfl⟩ | hown
        · rw [show rowsOf s.data.toList = [] from hq]
          exact ownsRow_below hown1 hBw (Nat.le_refl _)
        · exact ownsRow_base hown hB1.size
#print axioms Try.rRows_calls
end Go.Proofs
