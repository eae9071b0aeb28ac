/- its, and the document's own Same, Blank and Rows of this program, as contracts. Conditions: lists of at most two million lines; a text of at most a million bytes. -/
import Derived.Test.YtiedogcekalfjaaG03
import Derived.Deep.QuietTactic
import Derived.BigQuiet
import Derived.Deep.AppendLies
import Derived.Deep.RegionLaw
import Derived.Deep.Cut
import Derived.Deep.CutRange
import Derived.Deep.CutBlock
import Derived.Deep.RegionHeld3
import Derived.Deep.DrawnRows
import Derived.WalkKit
import Derived.RangeFuncBox
import Derived.Test.YtiedogcekalfjaaG02
namespace Go.Proofs
open Go.RowKit Go.Shelf Go.Cur

theorem HasLines.at {W : World} {g : Nat} {n cap : Nat} {ps : List (Nat × Nat × Nat)} (h : HasLines W (.slice (some ⟨g, 0, none⟩) n cap) ps) {i a b c : Nat} (hi : ps[i]? = some (a, b, c)) :
    g < W.heap.size ∧ W.cell? ⟨g, i * 3, none⟩ = some (.int .i64 (a : Nat)) ∧ W.cell? ⟨g, i * 3 + 1, none⟩ = some (.int .i64 (b : Nat)) ∧ W.cell? ⟨g, i * 3 + 2, none⟩ = some (.int .i64 (c : Nat)) := by
  obtain ⟨ao, cap', e, h⟩ := h
  obtain ⟨g', h1, h2, h3, h4, h5⟩ := h i a b c hi
  cases e
  cases h1
  exact ⟨h2, h3, h4, h5⟩
theorem HasLines.split {W : World} {v : Value} {ps : List (Nat × Nat × Nat)} (h : HasLines W v ps) : (ps = [] ∧ ∃ ao cap, v = .slice ao 0 cap) ∨ (0 < ps.length ∧ ∃ g cap, v = .slice (some ⟨g, 0, none⟩) ps.length cap ∧ g < W.heap.size) := by
  obtain ⟨ao, cap, rfl, h⟩ := h
  cases ps with
  | nil => exact .inl ⟨rfl, ao, cap, rfl⟩
  | cons p ps =>
    obtain ⟨a, b, c⟩ := p
    obtain ⟨g, rfl, h1, _⟩ := h 0 a b c rfl
    exact .inr ⟨by simp, g, cap, rfl, h1⟩


end Go.Proofs
/- The document's own Blank and Rows of this program, as contracts. Conditions: a text of at most a million bytes; a part that lies in it. -/
namespace Go.Cur
theorem cutL_step {l : List UInt8} {k b : Nat} {c : UInt8} (hk : k < b) (hc : l[k]? = some c) : blankL (cutL l k b) = ((c == 32 || c == 9) && blankL (cutL l (k + 1) b)) := by
  obtain ⟨hl, rfl⟩ := List.getElem?_eq_some_iff.1 hc
  unfold cutL
  rw [List.extract_eq_take_drop, List.extract_eq_take_drop, List.drop_eq_getElem_cons hl, show b - k = (b - (k + 1)) + 1 from by omega, List.take_succ_cons]
  rfl
theorem cutL_end (l : List UInt8) (b : Nat) : blankL (cutL l b b) = true := by
  unfold cutL
  rw [List.extract_eq_take_drop, Nat.sub_self, List.take_zero]; rfl
end Go.Cur
namespace Go.Proofs
open Go.RowKit Go.Shelf Go.Cur

set_option maxRecDepth 100000 in
set_option maxHeartbeats 1000000 in
theorem Try.rBlank_calls (s : ByteArray) (a b c : Nat) (w : World) (hs : s.size ≤ 1000000) (hab : a ≤ b) (hbl : b ≤ s.size) :
    Calls Try.prog 53 #[.string s, .agg #[.int .i64 (a : Nat), .int .i64 (b : Nat), .int .i64 (c : Nat)]] w fun e w' => e = .returned (.bool (blankL (cutL s.data.toList a b))) ∧ Below w.heap.size w w' := by
  go_enter Try.func53, Try.ntmps53
  go_wp2
  go_loop [5] (fun v => ∃ k : Nat, a ≤ k ∧ k ≤ b ∧ v = .int .i64 (k : Int) ∧ blankL (cutL s.data.toList a b) = blankL (cutL s.data.toList k b)) (fun v => b - (intOf v).toNat)
  case atStart => exact ⟨a, Nat.le_refl _, hab, rfl, rfl⟩
  case round =>
    obtain ⟨k, hak, hkb, rfl, hbk⟩ := hrel
    have hB : Below w.heap.size w (w.alloc (Obj.cells #[Value.int IntKind.i64 (a : Nat), Value.int IntKind.i64 (b : Nat), Value.int IntKind.i64 (c : Nat)] 75)) := (Below.refl _ w).alloc (Nat.le_refl _) _
    by_cases hlt : k < b
    · have hks : k < s.size := by omega
      rw [cutL_step hlt (list_get s k hks)] at hbk
      by_cases hb : (s[k]'hks == 32 || s[k]'hks == 9) = true
      · rw [hb, Bool.true_and] at hbk
        have Hb := Lib.hid hbk
        have hpart : (((s[k]'hks).toNat : Int) != 32) = false ∨ ((((s[k]'hks).toNat : Int) != 32) = true ∧ (((s[k]'hks).toNat : Int) != 9) = false) := by
          by_cases h1 : s[k]'hks = 32
          · exact .inl (by rw [h1]; rfl)
          · have h2 : s[k]'hks = 9 := by
              rw [Bool.or_eq_true, beq_iff_eq, beq_iff_eq] at hb
              exact hb.resolve_left h1
            exact .inr ⟨by rw [h2]; rfl, by rw [h2]; rfl⟩
        clear hbk hb
        rcases hpart with h32 | ⟨h32, h9⟩
        all_goals
          go_wp2
          go_round
          case rel => exact ⟨k + 1, by omega, by omega, by go_num, Hb.out⟩
          case measure => simp [intOf]; omega
      · have hb' : (s[k]'hks == 32 || s[k]'hks == 9) = false := by simpa using hb
        rw [hb', Bool.false_and] at hbk
        have Hb := Lib.hid hbk
        rw [Bool.or_eq_false_iff, beq_eq_false_iff_ne, beq_eq_false_iff_ne] at hb'
        have h32 : (((s[k]'hks).toNat : Int) != 32) = true := by
          rw [bne_iff_ne]
          intro e
          exact hb'.1 (UInt8.toNat_inj.1 (by have e' : (s[k]'hks).toNat = 32 := by omega
                                             exact e'))
        have h9 : (((s[k]'hks).toNat : Int) != 9) = true := by
          rw [bne_iff_ne]
          intro e
          exact hb'.2 (UInt8.toNat_inj.1 (by have e' : (s[k]'hks).toNat = 9 := by omega
                                             exact e'))
        clear hbk hb hb'
        go_wp2
        go_ret
        rw [Hb.out]
        exact ⟨rfl, hB⟩
    · have hkk : k = b := by omega
      subst hkk
      rw [cutL_end] at hbk
      have Hb := Lib.hid hbk
      clear hbk
      go_wp2
      go_ret
      rw [Hb.out]
      exact ⟨rfl, hB⟩

theorem ownsRow_base {w : World} {base base' : Nat} {e : TypeId} {size : Nat} {v : Value} {k : Nat} {xs : List Value} (h : w.ownsRow base e size v k xs) (hb : base' ≤ base) : w.ownsRow base' e size v k xs := by
  refine ⟨h.1, h.2.imp id ?_⟩
  rintro ⟨g, cap, cur, h1, h2, h3⟩
  exact ⟨g, cap, cur, h1, Nat.le_trans hb h2, h3⟩
/-- A list of lines that is as it was begun, or lies in new memory. -/
def OwnOr (b0 b1 : Nat) (wr : World) (v : Value) (q : List (Nat × Nat × Nat)) : Prop := (q = [] ∧ v = .slice (some ⟨b0, 0, none⟩) 0 0) ∨ wr.ownsRow b1 75 3 v q.length (lineCells q)

set_option maxRecDepth 100000 in
set_option maxHeartbeats 1000000 in
theorem Try.rRows_calls (s : ByteArray) (w : World) (hs : s.size ≤ 1000000) :
    Calls Try.prog 29 #[.string s] w fun e w' => ∃ v, e = .returned v ∧ w'.ownsRow w.heap.size 75 3 v (rowsOf s.data.toList).length (lineCells (rowsOf s.data.toList)) ∧ Below w.heap.size w w' := by
  obtain ⟨i0, hi, hz0, hz1, hz2⟩ := info_parts Try.info75
  have HI := Lib.hid hi
  have hln := lines_len s
  clear hi
  go_enter Try.func29, Try.ntmps29
  go_wp2_with (go_at_call 52; refine (Try.rLines_calls s _ hs).mono ?_; rintro e w1 ⟨v, rfl, h1, h2⟩)
  have hv := hasLines_of_owns h1
  have hB1 : Below w.heap.size w w1 := (((Below.refl _ w).alloc (Nat.le_refl _) (.cells #[] 75)).trans (h2.mono (by simp)))
  have hown1 : w1.ownsRow w.heap.size 75 3 (.slice (some ⟨w.heap.size, 0, none⟩) 0 0) 0 [] := ownsRow_below (owns_empty w 75) h2 (Nat.le_refl _)
  clear h1 h2
  rcases hv.split with ⟨hnil, ao, cap, rfl⟩ | ⟨hpos, g, cap, rfl, hg⟩
  · have hro : rowsOf s.data.toList = [] := by unfold rowsOf; rw [hnil]; rfl
    have HR := Lib.hid hro
    clear hv hro hnil
    go_loopw [3, 5] (fun v' i wr => i = .int .i64 0 ∧ wr.ownsRow w.heap.size 75 3 v' 0 [] ∧ Below w.heap.size w wr) (fun _ _ _ => 0)
    case atStart => exact ⟨rfl, hown1, hB1⟩
    case round =>
      obtain ⟨rfl, hown, hB⟩ := hrel
      go_wp2
      go_ret
      rw [HR.out]
      exact ⟨_, rfl, hown, hB⟩
  · have HV := Lib.hid hv
    clear hv
    go_loopw [3, 5] (fun v' i wr => ∃ k : Nat, k ≤ (lines s.data.toList).length ∧ i = .int .i64 (k : Int) ∧ OwnOr w.heap.size w1.heap.size wr v' (((lines s.data.toList).take k).filter (bare s.data.toList)) ∧ Below w1.heap.size w1 wr) (fun _ i _ => (lines s.data.toList).length - (intOf i).toNat)
    case atStart => exact ⟨0, Nat.zero_le _, rfl, .inl ⟨rfl, rfl⟩, Below.refl _ _⟩
    case round =>
      obtain ⟨k, hk, rfl, hown, hBw⟩ := hrel
      have hB2 : w1.heap.size ≤ wr.heap.size := hBw.size
      by_cases hlt : k < (lines s.data.toList).length
      · obtain ⟨⟨a, b, c⟩, hp⟩ : ∃ p, (lines s.data.toList)[k]? = some p := ⟨_, List.getElem?_eq_getElem hlt⟩
        obtain ⟨_, x0, x1, x2⟩ := HV.out.at hp
        replace x0 := (hBw.cell (p := ⟨g, k * 3, none⟩) hg).trans x0
        replace x1 := (hBw.cell (p := ⟨g, k * 3 + 1, none⟩) hg).trans x1
        replace x2 := (hBw.cell (p := ⟨g, k * 3 + 2, none⟩) hg).trans x2
        have hgr : g < wr.heap.size := Nat.lt_of_lt_of_le hg hBw.size
        obtain ⟨hab, hbl, _, _⟩ := lines_get hp
        have hbl' : b ≤ s.size := by simpa using hbl
        have hstep := rows_step hp
        have hcall := fun w1 : World => Try.rBlank_calls s a b c w1 hs hab hbl'
        have hfl : (((lines s.data.toList).take k).filter (bare s.data.toList)).length ≤ s.size + 1 := by
          have h1 := List.length_filter_le (bare s.data.toList) ((lines s.data.toList).take k)
          have h3 : ((lines s.data.toList).take k).length ≤ (lines s.data.toList).length := by rw [List.length_take]; omega
          omega
        have HO := Lib.hid hown
        clear hown
        cases hbk : blankL (cutL s.data.toList a b) with
        | true =>
          rw [hbk] at hcall
          have hbare : bare s.data.toList (a, b, c) = false := by simp [bare, hbk]
          rw [if_neg (by rw [hbare]; simp), List.append_nil] at hstep
          have HC := Lib.hid hcall
          have HS := Lib.hid hstep
          clear hcall hstep hbare hbk hp hfl hab hbl
          go_wp2_with (go_at_call 53; refine (HC.out _).mono ?_; rintro e w2 ⟨rfl, hb2⟩)
          go_roundw
          case rel => exact ⟨k + 1, by omega, by go_num, by rw [HS.out]; exact HO.out.imp id (fun h => ownsRow_below h hb2 (Nat.le_refl _)), hBw.trans (hb2.mono hB2)⟩
          case measure => simp [intOf]; omega
        | false =>
          rw [hbk] at hcall
          have hbare : bare s.data.toList (a, b, c) = true := by simp [bare, hbk]
          rw [if_pos hbare] at hstep
          have HC := Lib.hid hcall
          have HS := Lib.hid hstep
          clear hcall hstep hbare hbk hp hab hbl
          generalize ((lines s.data.toList).take k).filter (bare s.data.toList) = q at *
          have hml : q.length + 1 ≤ maxLen := by unfold maxLen; omega
          have hml2 : (q.length + 1) * 24 ≤ 140737488355328 := by omega
          clear hfl
          rcases HO.out with ⟨hq, rfl⟩ | hown
          · have HQ := Lib.hid hq
            clear hq hml hml2
            go_wp2_with (first | (go_at_call 53; refine (HC.out _).mono ?_; rintro e w2 ⟨rfl, hb2⟩; have y4 := hBw.trans (hb2.mono hB2); have z0 := (hb2.cell (p := ⟨g, k * 3, none⟩) hgr).trans x0; have z1 := (hb2.cell (p := ⟨g, k * 3 + 1, none⟩) hgr).trans x1; have z2 := (hb2.cell (p := ⟨g, k * 3 + 2, none⟩) hgr).trans x2) | (at_builtin; refine wpList_append_grows _ rfl _ _ 73 rfl 75 i0 (.agg #[.int .i64 0, .int .i64 0, .int .i64 0]) 3 24 Try.underlying73 HI.out hz0 hz1 hz2 rfl (by decide) (some ⟨w.heap.size, 0, none⟩) 0 0 [] rfl (fun h => by cases h) rfl (fun b h j u hu => by cases hu) ⟨w2.heap.size, 0, none⟩ 1 1 [.int .i64 (a : Nat), .int .i64 (b : Nat), .int .i64 (c : Nat)] rfl rfl (curcells_new w2 #[.int .i64 (a : Nat), .int .i64 (b : Nat), .int .i64 (c : Nat)] 75) (by simp [Value.oneCell']) (by decide) (by unfold maxLen; decide) (by decide) ?_; intro v' w3 hown' hgrow))
            go_roundw
            case rel =>
              refine ⟨k + 1, by omega, by go_num, .inr ?_, (y4.alloc y4.size _).grown hgrow (by simp; have := y4.size; omega) (fun k e => by cases e)⟩
              rw [HS.out, HQ.out]
              exact ownsRow_base hown' (by simp; have := y4.size; omega)
            case measure => simp [intOf]; omega
          · go_wp2_with (first | (go_at_call 53; refine (HC.out _).mono ?_; rintro e w2 ⟨rfl, hb2⟩; have y2 := ownsRow_below hown hb2 (Nat.le_refl _); have y4 := hBw.trans (hb2.mono hB2); have z0 := (hb2.cell (p := ⟨g, k * 3, none⟩) hgr).trans x0; have z1 := (hb2.cell (p := ⟨g, k * 3 + 1, none⟩) hgr).trans x1; have z2 := (hb2.cell (p := ⟨g, k * 3 + 2, none⟩) hgr).trans x2) | (at_builtin; refine wpList_append_own _ rfl _ _ 73 rfl w1.heap.size 75 i0 (.agg #[.int .i64 0, .int .i64 0, .int .i64 0]) 3 24 Try.underlying73 HI.out hz0 hz1 hz2 rfl (by decide) _ _ _ rfl (y2.alloc _) ⟨w2.heap.size, 0, none⟩ 1 1 [.int .i64 (a : Nat), .int .i64 (b : Nat), .int .i64 (c : Nat)] rfl rfl (curcells_new w2 #[.int .i64 (a : Nat), .int .i64 (b : Nat), .int .i64 (c : Nat)] 75) (by simp [Value.oneCell']) hml hml2 (by have := y4.size; simp; omega) ?_; intro v' w3 hown' hgrow _))
            go_roundw
            case rel => exact ⟨k + 1, by omega, by go_num, .inr (by rw [HS.out, lineCells_snoc, List.length_append]; exact hown'), grown_below y4 y4.size y2 hgrow⟩
            case measure => simp [intOf]; omega
      · have hkk : k = (lines s.data.toList).length := by omega
        subst hkk
        rw [List.take_length] at hown
        have HO := Lib.hid hown
        clear hown
        go_wp2
        go_ret
        refine ⟨_, rfl, ?_, hB1.trans (hBw.mono hB1.size)⟩
        rcases HO.out with ⟨hq, rfl⟩ | hown
        · rw [show rowsOf s.data.toList = [] from hq]
          exact ownsRow_below hown1 hBw (Nat.le_refl _)
        · exact ownsRow_base hown hB1.size
#print axioms Try.rRows_calls
end Go.Proofs
/- append as a step of a region that draws; rows of two types do not lie in one another. No program. -/
namespace Go
open Go.RowKit
/-- append onto a row of the call's own (or onto nothing), as a step of a region that draws. -/
theorem step_append_s {P : Program} {w : World} {ops : Array Oper} {o : Oper} {a : Act} {K : Act → World → Prop} {Q : Exit → Act → World → Prop} {E : Prop} (hgd : o.guard = none) (s x : Operand) (t : TypeId)
    (ho : o.op = .call { callee := .builtin .append, args := #[s, x], argTypes := #[t, t] })
    (base : Nat) (e : TypeId) (i : TypeInfo) (z : Value) (size bytes : Nat) (ht : P.underlying t = some (.slice e)) (hi : P.info? e = some i) (hz : i.zero = some z)
    (hsize : i.size = size) (hby : i.bytes = bytes) (hzs : z.cells.size = size) (hsz : 0 < size)
    (v : Value) (n : Nat) (xs : List Value) (hs : a.eval s = v) (hown : w.ownsRow base e size v n xs)
    (ad : Addr) (m c : Nat) (news : List Value) (hx : a.eval x = .slice (some ad) m c) (hl : news.length = m * size) (hnews : ∀ j u, news[j]? = some u → w.cell? (ad.add j) = some u) (h1 : ∀ u ∈ news, u.oneCell' = true)
    (h63 : n + m ≤ maxLen) (hbytes : (n + m) * bytes ≤ 140737488355328) (hbase : base ≤ w.heap.size)
    (h : ∀ v' w', w'.ownsRow base e size v' (n + m) (xs ++ news) → w.grownBy w' v.ownBlock → K (a.put o.dst v') w') :
    if Region.wanted o (yielded ops a.tmps) = true then Oper.wp P o a w K Q else E := by
  have hw : Region.wanted o (yielded ops a.tmps) = true := by simp [Region.wanted, hgd]
  rw [if_pos hw]
  exact wp_append_own w s x t ho base e i z size bytes ht hi hz hsize hby hzs hsz v n xs hs hown ad m c news hx hl hnews h1 h63 hbytes hbase fun v' w' h2 h3 _ => h v' w' h2 h3
/-- A row of another type stands where a row is appended to. -/
theorem owns_tag {W W' : World} {b1 b2 s1 s2 n1 n2 : Nat} {e1 e2 : TypeId} {v1 v2 : Value} {xs1 xs2 : List Value} (h1 : W.ownsRow b1 e1 s1 v1 n1 xs1) (h2 : W.ownsRow b2 e2 s2 v2 n2 xs2) (hne : e1 ≠ e2) (hg : W.grownBy W' v2.ownBlock) : W'.ownsRow b1 e1 s1 v1 n1 xs1 := by
  refine h1.kept hg ?_
  rcases h1.2 with ⟨rfl, _⟩ | ⟨g, cap, cur, rfl, _, hg1, _⟩
  · exact .inl rfl
  · refine .inr fun e => ?_
    rcases h2.2 with ⟨rfl, _⟩ | ⟨g', cap', cur', rfl, _, hg2, _⟩
    · cases e
    · obtain rfl : g = g' := Option.some.inj e
      rw [hg1] at hg2
      have := Option.some.inj hg2
      injection this with _ e2
      exact hne e2
theorem owns_drew_s {W : World} {base : Nat} {e : TypeId} {size : Nat} {v : Value} {c : Nat} {xs : List Value} (h : W.ownsRow base e size v c xs) : W.drew.ownsRow base e size v c xs := h
theorem below_drew_s {B : Nat} {a w : World} (h : Below B a w) : Below B a w.drew := ⟨h.os, h.tape, h.output, h.size, h.block⟩
theorem cells_arr_s (W : World) (cs : Array Value) (t : TypeId) : ∀ (j : Nat) (u : Value), cs.toList[j]? = some u → (W.alloc (.cells cs t)).cell? ((⟨W.heap.size, 0, none⟩ : Addr).add j) = some u := by
  intro j u h
  rw [Addr.add_lit, Nat.zero_add]
  unfold World.cell?
  rw [World.alloc_heap_new]
  simpa using h
/-- An append leaves what lies below it. -/
theorem below_append_s {n₀ : Nat} {w wr w1 : World} {v : Value} {e : TypeId} {size k : Nat} {xs : List Value} (hB : Below n₀ w wr) (hn : n₀ ≤ wr.heap.size) (hown : wr.ownsRow n₀ e size v k xs) (hgrow : wr.grownBy w1 v.ownBlock) : Below n₀ w w1 :=
  hB.grown hgrow hn (fun j e => (hown.lt j e).1)
end Go
namespace Go.Proofs
open Go.RowKit Go.Shelf Go.Cur Go.Wds Go.Sheet
/-- A line's cells in an own row of lines. -/
theorem line_cells {W : World} {base g n c : Nat} {e : TypeId} {L : List (Nat × Nat × Nat)} (h : W.ownsRow base e 3 (.slice (some ⟨g, 0, none⟩) n c) L.length (lineCells L)) {k a b d : Nat} (hk : L[k]? = some (a, b, d)) :
    W.cell? ⟨g, k * 3, none⟩ = some (.int .i64 (a : Nat)) ∧ W.cell? ⟨g, k * 3 + 1, none⟩ = some (.int .i64 (b : Nat)) := by
  have hf := owns_flat (f := fun p : Nat × Nat × Nat => [Value.int .i64 (p.1 : Int), .int .i64 (p.2.1 : Int), .int .i64 (p.2.2 : Int)]) (fun _ => rfl) h
  rcases hf with ⟨rfl, h0⟩ | ⟨g', cap, h1, _, _, _, h5⟩
  · simp at hk
  · cases h1
    have k0 := h5 k (a, b, d) 0 _ hk rfl
    have k1 := h5 k (a, b, d) 1 _ hk rfl
    rw [Nat.zero_add] at k0 k1
    exact ⟨k0, k1⟩
end Go.Proofs
/- The document's own Rows of layer 13. Conditions: a text of at most a million bytes. -/
namespace Go.Proofs
open Go.RowKit Go.Shelf Go.Cur Go.Wds Go.Sheet
attribute [local go_sem] Oper.semAt_some
theorem fbelow_box_s (w : World) (o : Obj) : Below w.heap.size w (w.alloc o) := (Below.refl _ w).alloc (Nat.le_refl _) _
theorem owns_slice_s {W : World} {base size n : Nat} {e : TypeId} {v : Value} {xs : List Value} (h : W.ownsRow base e size v n xs) : ∃ a c, v = .slice a n c := by
  rcases h.2 with ⟨rfl, rfl⟩ | ⟨g, cap, cur, rfl, _⟩
  · exact ⟨none, 0, rfl⟩
  · exact ⟨_, cap, rfl⟩
theorem Try.info36 : (Try.prog.info? 36).map (fun i => (i.zero, i.size, i.bytes)) = some (some (.agg #[.int .i64 0, .slice none 0 0]), 2, 32) := by kernel_rfl
/-- Lines, and the rows so far. -/
structure RrS (w : World) (s : ByteArray) (n : Nat) (lv : Value) (o : Value) (us : List (Nat × Value)) (mm : List Rw) (W : World) : Prop where
  below : Below w.heap.size w W
  lines : W.ownsRow w.heap.size 75 3 lv n (lineCells (rowsOf s.data.toList))
  out : RowsR w.heap.size 36 W o us mm
theorem RrS.next {w W W' : World} {s : ByteArray} {n : Nat} {lv o : Value} {us : List (Nat × Value)} {mm : List Rw} (h : RrS w s n lv o us mm W) (hb : Below W.heap.size W W') : RrS w s n lv o us mm W' :=
  ⟨h.below.trans (hb.mono h.below.size), ownsRow_below h.lines hb (Nat.le_refl _), h.out.next hb⟩
theorem RrS.drew {w W : World} {s : ByteArray} {n : Nat} {lv o : Value} {us : List (Nat × Value)} {mm : List Rw} (h : RrS w s n lv o us mm W) : RrS w s n lv o us mm W.drew := h.next (below_drew_s (Below.refl _ _))
theorem RrS.grow {w W W' : World} {s : ByteArray} {n : Nat} {lv o o' u : Value} {us : List (Nat × Value)} {mm : List Rw} {p : Rw} (h : RrS w s n lv o us mm W) (hu : HasWords W u p.2) (hg : W.grownBy W' o.ownBlock) (hr : W'.ownsRow w.heap.size 36 2 o' (us.length + 1) (us.flatMap rwC ++ rwC (p.1, u))) : RrS w s n lv o' (us ++ [(p.1, u)]) (mm ++ [p]) W' :=
  ⟨below_append_s h.below h.below.size h.out.row hg, owns_tag h.lines h.out.row (by decide) hg, h.out.grow hu hg hr⟩
set_option maxRecDepth 100000 in
set_option maxHeartbeats 4000000 in
theorem Try.rSheetRows_calls (s : ByteArray) (k0 : Int) (w : World) (hs : s.size ≤ 1000000) :
    Calls Try.prog 10 #[.string s, .int .i64 k0] w fun e w' => ∃ v, e = .returned v ∧ HasRows w' v (rowsE s k0) ∧ Below w.heap.size w w' := by
  obtain ⟨i0, hio, hz0, hz1, hz2⟩ := info_parts Try.info36
  have HI := Lib.hid hio
  have HLN : Hid ((rowsOf s.data.toList).length ≤ 1000001) := Nat.le_trans (List.length_filter_le _ _) (Nat.le_trans (lines_len s) (by omega))
  have HLC := Lib.hid fun W => Try.rRows_calls s W hs
  have HRE : Hid (∀ i p, (rowsOf s.data.toList)[i]? = some p → (((rowsOf s.data.toList).take (i + 1)).filter (fromB k0)).map (rowW s) = (((rowsOf s.data.toList).take i).filter (fromB k0)).map (rowW s) ++ (if fromB k0 p = true then [rowW s p] else [])) := fun i p h => rowsE_step h
  have HBD : Hid (∀ i a b d, (rowsOf s.data.toList)[i]? = some (a, b, d) → a ≤ b ∧ b ≤ s.size) := fun i a b d h => by
    have hm := List.mem_filter.1 (List.mem_of_getElem? h)
    obtain ⟨j, hj⟩ := List.getElem?_of_mem hm.1
    have := lines_get hj
    exact ⟨this.1, by simpa using this.2.1⟩
  have HE0 : Hid (RowsR w.heap.size 36 (w.alloc (.cells #[] 36)) (.slice (some ⟨w.heap.size, 0, none⟩) 0 0) [] []) := RowsR.empty w 36
  have HB0 := Lib.hid (fbelow_box_s w (.cells #[] 36))
  clear hio
  go_enter Try.func10, Try.ntmps10
  go_wp2_with (go_at_call 29; (with_reducible refine (HLC.out _).mono ?_); rintro e w1 ⟨lv, rfl, hl1, hb1⟩; have HS0 : Hid (RrS w s (rowsOf s.data.toList).length lv (.slice (some ⟨w.heap.size, 0, none⟩) 0 0) [] [] w1) := ⟨HB0.out.trans (hb1.mono HB0.out.size), ownsRow_base hl1 HB0.out.size, HE0.out.next hb1⟩; obtain ⟨al, cl, rfl⟩ := owns_slice_s hl1; clear hb1 hl1)
  generalize hL : (rowsOf s.data.toList).length = L at *
  have HLL := Lib.hid hL
  clear hL
  go_loopw [5, 7] (fun o i wr => ∃ (k : Nat) (us : List (Nat × Value)), k ≤ L ∧ i = .int .i64 (k : Int) ∧ RrS w s L (.slice al L cl) o us ((((rowsOf s.data.toList).take k).filter (fromB k0)).map (rowW s)) wr) (fun _ i _ => L - (intOf i).toNat)
  case atStart => exact ⟨0, [], Nat.zero_le _, rfl, HS0.out⟩
  case round =>
    obtain ⟨k, us, hk, rfl, hS⟩ := hrel
    have HS := Lib.hid hS
    clear hS HS0 HE0 HB0
    by_cases hlt : k < L
    · obtain ⟨⟨a, b, d⟩, hp⟩ : ∃ p, (rowsOf s.data.toList)[k]? = some p := ⟨_, List.getElem?_eq_getElem (by rw [HLL.out]; exact hlt)⟩
      have hln := HS.out.lines
      obtain ⟨g, rfl⟩ : ∃ g, al = some ⟨g, 0, none⟩ := by
        rcases hln.2 with ⟨h0, h1⟩ | ⟨g, cap, cur, h0, _⟩
        · omega
        · cases h0; exact ⟨g, rfl⟩
      have HCE : Hid (∀ (W : World), W.ownsRow w.heap.size 75 3 (.slice (some ⟨g, 0, none⟩) L cl) L (lineCells (rowsOf s.data.toList)) → W.cell? ⟨g, k * 3, none⟩ = some (.int .i64 (a : Nat)) ∧ W.cell? ⟨g, k * 3 + 1, none⟩ = some (.int .i64 (b : Nat))) := fun W h => line_cells (by rw [HLL.out]; exact h) hp
      have HR := Lib.hid (HRE.out k _ hp)
      obtain ⟨hab, hbs⟩ := HBD.out k a b d hp
      have hki : (k : Int) < (L : Int) := by omega
      have hkb : k ≤ 1000001 := Nat.le_trans hk HLN.out
      obtain ⟨x0, x1⟩ := HCE.out _ hln
      clear hln
      have hus := HS.out.out.vals.1
      have hul : us.length ≤ 1000001 := by
        rw [hus, List.length_map]
        exact Nat.le_trans (List.length_filter_le _ _) (Nat.le_trans (by rw [List.length_take]; omega) HLN.out)
      have hml : us.length + 1 ≤ maxLen := by unfold maxLen; omega
      have hml2 : (us.length + 1) * 32 ≤ 140737488355328 := by omega
      clear hp hus
      by_cases hq : k0 ≤ (a : Int)
      · have hf : fromB k0 (a, b, d) = true := decide_eq_true hq
        rw [hf, if_pos rfl] at HR
        have HF : Hid (∀ W, Calls Try.prog 30 #[.string s, .int .i64 (a : Nat), .int .i64 (b : Nat)] W fun e w' => ∃ v, e = .returned v ∧ HasWords w' v (rowW s (a, b, d)).2 ∧ Below W.heap.size W w') := fun W => by
          have := Try.rFields_calls s (a : Nat) (b : Nat) W (by omega)
          unfold fieldsI at this
          rw [inB_nat hab hbs, if_pos rfl] at this
          exact this
        have HRW : Hid ((rowW s (a, b, d)).1 = a) := rfl
        generalize rowW s (a, b, d) = p at *
        obtain ⟨pa, P0⟩ := p
        obtain rfl : pa = a := HRW.out
        clear hf hul
        go_upto_region 7 with (fail)
        have N0 := HS.out.drew
        refine wp_region_held_drew (S := fun V => V.ownsRow w.heap.size 75 3 (.slice (some ⟨g, 0, none⟩) L cl) L (lineCells (rowsOf s.data.toList))) (by kernel_rfl) (N0.lines) (fun hHeld0 => ?_)
        clear hHeld0
        generalize wr.drew = V0 at *
        refine wpAnyH_take (i := 0) (v := ?_) rfl (by kernel_rfl) (by kernel_rfl) (by kernel_rfl) (fun _ _ _ h => h) (Or.inl ⟨by kernel_rfl, ?_⟩) (N0.lines) ?_
        rotate_left
        · (intro w0 hSw; (try dsimp only at hSw); have e0 := (HCE.out _ hSw).1; have e1 := (HCE.out _ hSw).2; go_simp; try with_reducible rfl)
        try dsimp only [List.getElem_toArray, List.getElem_cons_succ, List.getElem_cons_zero, Act.put]
        try simp only [List.setIfInBounds_toArray, List.set_cons_zero, List.set_cons_succ]
        refine wpAnyH_take (i := 1) (v := ?_) rfl (by kernel_rfl) (by kernel_rfl) (by kernel_rfl) (fun _ _ _ h => h) (Or.inl ⟨by kernel_rfl, ?_⟩) (N0.lines) ?_
        rotate_left
        · (intro w0 hSw; (try dsimp only at hSw); have e0 := (HCE.out _ hSw).1; have e1 := (HCE.out _ hSw).2; go_simp; try with_reducible rfl)
        try dsimp only [List.getElem_toArray, List.getElem_cons_succ, List.getElem_cons_zero, Act.put]
        try simp only [List.setIfInBounds_toArray, List.set_cons_zero, List.set_cons_succ]
        refine wpAnyH_take (i := 2) (v := ?_) rfl (by kernel_rfl) (by kernel_rfl) (by kernel_rfl) (fun _ _ _ h => h) (Or.inl ⟨by kernel_rfl, ?_⟩) (N0.lines) ?_
        rotate_left
        · (intro w0 hSw; (try dsimp only at hSw); have e0 := (HCE.out _ hSw).1; have e1 := (HCE.out _ hSw).2; go_simp; try with_reducible rfl)
        try dsimp only [List.getElem_toArray, List.getElem_cons_succ, List.getElem_cons_zero, Act.put]
        try simp only [List.setIfInBounds_toArray, List.set_cons_zero, List.set_cons_succ]
        refine wpAnyH_take (i := 3) (v := ?_) rfl (by kernel_rfl) (by kernel_rfl) (by kernel_rfl) (fun _ _ _ h => h) (Or.inl ⟨by kernel_rfl, ?_⟩) (N0.lines) ?_
        rotate_left
        · (intro w0 hSw; (try dsimp only at hSw); have e0 := (HCE.out _ hSw).1; have e1 := (HCE.out _ hSw).2; go_simp; try with_reducible rfl)
        try dsimp only [List.getElem_toArray, List.getElem_cons_succ, List.getElem_cons_zero, Act.put]
        try simp only [List.setIfInBounds_toArray, List.set_cons_zero, List.set_cons_succ]
        refine wpAnyH_take (i := 4) (v := ?_) rfl (by kernel_rfl) (by kernel_rfl) (by kernel_rfl) (fun _ _ _ h => h) (Or.inl ⟨by kernel_rfl, ?_⟩) (N0.lines) ?_
        rotate_left
        · (intro w0 hSw; (try dsimp only at hSw); have e0 := (HCE.out _ hSw).1; have e1 := (HCE.out _ hSw).2; go_simp; try with_reducible rfl)
        try dsimp only [List.getElem_toArray, List.getElem_cons_succ, List.getElem_cons_zero, Act.put]
        try simp only [List.setIfInBounds_toArray, List.set_cons_zero, List.set_cons_succ]
        refine wpAnyH_take (i := 5) (v := ?_) rfl (by kernel_rfl) (by kernel_rfl) (by kernel_rfl) (fun _ _ _ h => h) (Or.inl ⟨by kernel_rfl, ?_⟩) (N0.lines) ?_
        rotate_left
        · (intro w0 hSw; (try dsimp only at hSw); have e0 := (HCE.out _ hSw).1; have e1 := (HCE.out _ hSw).2; go_simp; try with_reducible rfl)
        try dsimp only [List.getElem_toArray, List.getElem_cons_succ, List.getElem_cons_zero, Act.put]
        try simp only [List.setIfInBounds_toArray, List.set_cons_zero, List.set_cons_succ]
        refine wpAnyH_take (i := 6) (v := ?_) rfl (by kernel_rfl) (by kernel_rfl) (by kernel_rfl) (fun _ _ _ h => h) (Or.inl ⟨by kernel_rfl, ?_⟩) (N0.lines) ?_
        rotate_left
        · (intro w0 hSw; (try dsimp only at hSw); have e0 := (HCE.out _ hSw).1; have e1 := (HCE.out _ hSw).2; go_simp; try with_reducible rfl)
        try dsimp only [List.getElem_toArray, List.getElem_cons_succ, List.getElem_cons_zero, Act.put]
        try simp only [List.setIfInBounds_toArray, List.set_cons_zero, List.set_cons_succ]
        refine wpAnyH_take (i := 7) (v := ?_) rfl (by kernel_rfl) (by kernel_rfl) (by kernel_rfl) (fun _ _ _ h => h) (Or.inl ⟨by kernel_rfl, ?_⟩) (N0.lines) ?_
        rotate_left
        · (intro w0 hSw; (try dsimp only at hSw); have e0 := (HCE.out _ hSw).1; have e1 := (HCE.out _ hSw).2; go_simp; try with_reducible rfl)
        try dsimp only [List.getElem_toArray, List.getElem_cons_succ, List.getElem_cons_zero, Act.put]
        try simp only [List.setIfInBounds_toArray, List.set_cons_zero, List.set_cons_succ]
        refine wpAnyH_take (i := 8) (v := ?_) rfl (by kernel_rfl) (by kernel_rfl) (by kernel_rfl) (fun _ _ _ h => h) (Or.inl ⟨by kernel_rfl, ?_⟩) (N0.lines) ?_
        rotate_left
        · (intro w0 hSw; (try dsimp only at hSw); have e0 := (HCE.out _ hSw).1; have e1 := (HCE.out _ hSw).2; go_simp; try with_reducible rfl)
        try dsimp only [List.getElem_toArray, List.getElem_cons_succ, List.getElem_cons_zero, Act.put]
        try simp only [List.setIfInBounds_toArray, List.set_cons_zero, List.set_cons_succ]
        refine wpAnyH_take (i := 9) (v := ?_) rfl (by kernel_rfl) (by kernel_rfl) (by kernel_rfl) (fun _ _ _ h => h) (Or.inl ⟨by kernel_rfl, ?_⟩) (N0.lines) ?_
        rotate_left
        · (intro w0 hSw; (try dsimp only at hSw); have e0 := (HCE.out _ hSw).1; have e1 := (HCE.out _ hSw).2; go_simp; try with_reducible rfl)
        try dsimp only [List.getElem_toArray, List.getElem_cons_succ, List.getElem_cons_zero, Act.put]
        try simp only [List.setIfInBounds_toArray, List.set_cons_zero, List.set_cons_succ]
        refine wpAnyH_take (i := 10) (v := ?_) rfl (by kernel_rfl) (by kernel_rfl) (by kernel_rfl) (fun _ _ _ h => h) (Or.inl ⟨by kernel_rfl, ?_⟩) (N0.lines) ?_
        rotate_left
        · (intro w0 hSw; (try dsimp only at hSw); have e0 := (HCE.out _ hSw).1; have e1 := (HCE.out _ hSw).2; go_simp; try with_reducible rfl)
        try dsimp only [List.getElem_toArray, List.getElem_cons_succ, List.getElem_cons_zero, Act.put]
        try simp only [List.setIfInBounds_toArray, List.set_cons_zero, List.set_cons_succ]
        refine wpAnyH_take (i := 11) (v := ?_) rfl (by kernel_rfl) (by kernel_rfl) (by kernel_rfl) (fun _ _ _ h => h) (Or.inl ⟨by kernel_rfl, ?_⟩) (N0.lines) ?_
        rotate_left
        · (intro w0 hSw; (try dsimp only at hSw); have e0 := (HCE.out _ hSw).1; have e1 := (HCE.out _ hSw).2; go_simp; try with_reducible rfl)
        try dsimp only [List.getElem_toArray, List.getElem_cons_succ, List.getElem_cons_zero, Act.put]
        try simp only [List.setIfInBounds_toArray, List.set_cons_zero, List.set_cons_succ]
        refine wpAnyH_take (i := 12) (v := ?_) rfl (by kernel_rfl) (by kernel_rfl) (by kernel_rfl) (fun _ _ _ h => h) (Or.inl ⟨by kernel_rfl, ?_⟩) (N0.lines) ?_
        rotate_left
        · (intro w0 hSw; (try dsimp only at hSw); have e0 := (HCE.out _ hSw).1; have e1 := (HCE.out _ hSw).2; go_simp; try with_reducible rfl)
        try dsimp only [List.getElem_toArray, List.getElem_cons_succ, List.getElem_cons_zero, Act.put]
        try simp only [List.setIfInBounds_toArray, List.set_cons_zero, List.set_cons_succ]
        refine wpAnyH_take (i := 13) (v := ?_) rfl (by kernel_rfl) (by kernel_rfl) (by kernel_rfl) (fun _ _ _ h => h) (Or.inl ⟨by kernel_rfl, ?_⟩) (N0.lines) ?_
        rotate_left
        · (intro w0 hSw; (try dsimp only at hSw); have e0 := (HCE.out _ hSw).1; have e1 := (HCE.out _ hSw).2; go_simp; try with_reducible rfl)
        try dsimp only [List.getElem_toArray, List.getElem_cons_succ, List.getElem_cons_zero, Act.put]
        try simp only [List.setIfInBounds_toArray, List.set_cons_zero, List.set_cons_succ]
        refine wpAnyH_take (i := 14) (v := ?_) rfl (by kernel_rfl) (by kernel_rfl) (by kernel_rfl) (fun _ _ _ h => h) (Or.inl ⟨by kernel_rfl, ?_⟩) (N0.lines) ?_
        rotate_left
        · (intro w0 hSw; (try dsimp only at hSw); have e0 := (HCE.out _ hSw).1; have e1 := (HCE.out _ hSw).2; go_simp; try with_reducible rfl)
        try dsimp only [List.getElem_toArray, List.getElem_cons_succ, List.getElem_cons_zero, Act.put]
        try simp only [List.setIfInBounds_toArray, List.set_cons_zero, List.set_cons_succ]
        refine wpAnyH_take (i := 15) (v := ?_) rfl (by kernel_rfl) (by kernel_rfl) (by kernel_rfl) (fun _ _ _ h => h) (Or.inl ⟨by kernel_rfl, ?_⟩) (N0.lines) ?_
        rotate_left
        · (intro w0 hSw; (try dsimp only at hSw); have e0 := (HCE.out _ hSw).1; have e1 := (HCE.out _ hSw).2; go_simp; try with_reducible rfl)
        try dsimp only [List.getElem_toArray, List.getElem_cons_succ, List.getElem_cons_zero, Act.put]
        try simp only [List.setIfInBounds_toArray, List.set_cons_zero, List.set_cons_succ]
        refine wpAnyH_take (i := 16) (v := ?_) rfl (by kernel_rfl) (by kernel_rfl) (by kernel_rfl) (fun _ _ _ h => h) (Or.inl ⟨by kernel_rfl, ?_⟩) (N0.lines) ?_
        rotate_left
        · (intro w0 hSw; (try dsimp only at hSw); have e0 := (HCE.out _ hSw).1; have e1 := (HCE.out _ hSw).2; go_simp; try with_reducible rfl)
        try dsimp only [List.getElem_toArray, List.getElem_cons_succ, List.getElem_cons_zero, Act.put]
        try simp only [List.setIfInBounds_toArray, List.set_cons_zero, List.set_cons_succ]
        refine wpAnyH_ready (rs := [17]) (by kernel_rfl) (by simp) (AllReadyH.cons rfl (fun KK hKK => ?_) AllReadyH.nil)
        go_simp
        go_at_call 30
        (with_reducible refine (HF.out _).mono ?_)
        rintro e W17 ⟨v17, rfl, hv17, hb17⟩
        have N1 := N0.next hb17
        have HV := Lib.hid hv17
        obtain ⟨av, cv, rfl, _⟩ := hv17
        refine hKK.out _ _ (N1.lines) (fun _ => ?_)
        clear hKK KK
        try dsimp only [List.getElem_toArray, List.getElem_cons_succ, List.getElem_cons_zero, Act.put]
        try simp only [List.setIfInBounds_toArray, List.set_cons_zero, List.set_cons_succ]
        clear N0 hb17
        refine wpAnyH_take (i := 18) (v := ?_) rfl (by kernel_rfl) (by kernel_rfl) (by kernel_rfl) (fun _ _ _ h => h) (Or.inl ⟨by kernel_rfl, ?_⟩) (N1.lines) ?_
        rotate_left
        · (intro w0 hSw; (try dsimp only at hSw); have e0 := (HCE.out _ hSw).1; have e1 := (HCE.out _ hSw).2; go_simp; try with_reducible rfl)
        try dsimp only [List.getElem_toArray, List.getElem_cons_succ, List.getElem_cons_zero, Act.put]
        try simp only [List.setIfInBounds_toArray, List.set_cons_zero, List.set_cons_succ]
        refine wpAnyH_ready (rs := [19]) (by kernel_rfl) (by simp) (AllReadyH.cons rfl (fun KK hKK => ?_) AllReadyH.nil)
        go_simp
        have N2 := N1.next (fbelow_box_s W17 (.cells #[.int .i64 (pa : Nat), .slice av P0.length cv] 36))
        have HV2 := Lib.hid (HV.out.later (fbelow_box_s W17 (.cells #[.int .i64 (pa : Nat), .slice av P0.length cv] 36)))
        refine hKK.out _ _ (N2.lines) (fun _ => ?_)
        clear hKK KK
        try dsimp only [List.getElem_toArray, List.getElem_cons_succ, List.getElem_cons_zero, Act.put]
        try simp only [List.setIfInBounds_toArray, List.set_cons_zero, List.set_cons_succ]
        refine wpAnyH_ready (rs := [20]) (by kernel_rfl) (by simp) (AllReadyH.cons rfl (fun KK hKK => ?_) AllReadyH.nil)
        refine step_append_s rfl (.tmp 24) (.tmp 43) 25 rfl w.heap.size 36 i0 (.agg #[.int .i64 0, .slice none 0 0]) 2 32 Try.underlying25 HI.out hz0 hz1 hz2 rfl (by decide) u5 us.length (us.flatMap rwC) rfl N2.out.row ⟨W17.heap.size, 0, none⟩ 1 1 (rwC (pa, .slice av P0.length cv)) rfl rfl (fun j u h => cells_arr_s _ _ _ j u h) (by simp [Value.oneCell', rwC]) hml hml2 N2.below.size ?_
        intro v5 W20 hown hgrow
        have N3 := N2.grow HV2.out hgrow hown
        obtain ⟨a5, c5, rfl⟩ := owns_slice_s hown
        clear hown hgrow
        refine hKK.out _ _ (N3.lines) (fun _ => ?_)
        clear hKK KK
        try dsimp only [List.getElem_toArray, List.getElem_cons_succ, List.getElem_cons_zero, Act.put]
        try simp only [List.setIfInBounds_toArray, List.set_cons_zero, List.set_cons_succ]
        clear N1 N2
        refine wpAnyH_take (i := 21) (v := ?_) rfl (by kernel_rfl) (by kernel_rfl) (by kernel_rfl) (fun _ _ _ h => h) (Or.inl ⟨by kernel_rfl, ?_⟩) (N3.lines) ?_
        rotate_left
        · (intro w0 hSw; (try dsimp only at hSw); have e0 := (HCE.out _ hSw).1; have e1 := (HCE.out _ hSw).2; go_simp; try with_reducible rfl)
        try dsimp only [List.getElem_toArray, List.getElem_cons_succ, List.getElem_cons_zero, Act.put]
        try simp only [List.setIfInBounds_toArray, List.set_cons_zero, List.set_cons_succ]
        refine wpAnyH_done (by kernel_rfl) ?_ _
        try dsimp only [List.getElem_toArray, List.getElem_cons_succ, List.getElem_cons_zero, Act.put]
        try simp only [List.setIfInBounds_toArray, List.set_cons_zero, List.set_cons_succ]
        go_wp2
        go_roundw
        case rel => exact ⟨k + 1, _, by omega, by go_num, by rw [HR.out]; exact N3⟩
        case measure => simp [intOf]; omega
      · have hf : fromB k0 (a, b, d) = false := decide_eq_false hq
        rw [hf, if_neg (by decide), List.append_nil] at HR
        clear hf hml hml2 hul
        go_wp2
        go_roundw
        case rel => exact ⟨k + 1, us, by omega, by go_num, by rw [HR.out]; exact HS.out⟩
        case measure => simp [intOf]; omega
    · obtain rfl : k = L := by omega
      have hI : Hid (HasRows wr u5 (rowsE s k0)) := by
        have := rows_of HS.out.out
        rw [← HLL.out, List.take_length] at this
        exact this
      clear hlt hk
      go_wp2
      go_ret
      exact ⟨u5, rfl, hI.out, HS.out.below⟩
end Go.Proofs
/- The document's own Same of layer 13, at the same rows. Conditions: lists of at most two million. -/
namespace Go.Proofs
open Go.RowKit Go.Shelf Go.Cur Go.Wds Go.Sheet
attribute [local go_sem] Oper.semAt_some
set_option maxRecDepth 100000 in
set_option maxHeartbeats 4000000 in
theorem Try.rSheetSame_calls (v u : Value) (l : List Rw) (w : World) (hl : l.length ≤ 2000000) (hp : ∀ p ∈ l, p.2.length ≤ 2000000) (hv : HasRows w v l) (hu : HasRows w u l) :
    Calls Try.prog 11 #[v, u] w fun e w' => e = .returned (.bool true) ∧ Below w.heap.size w w' := by
  obtain ⟨a, ca, rfl, hv1⟩ := hv.dat
  obtain ⟨b, cb, rfl, hu1⟩ := hu.dat
  have HV := Lib.hid hv1
  have HU := Lib.hid hu1
  have HP := Lib.hid hp
  obtain ⟨n, hn⟩ : ∃ n, l.length = n := ⟨_, rfl⟩
  have HN := Lib.hid hn
  rw [hn] at hl ⊢
  clear hv hu hv1 hu1 hp hn
  have hne : ((n : Int) != (n : Int)) = false := by simp
  go_enter Try.func11, Try.ntmps11
  go_wp2
  go_loopw [5] (fun i wr => ∃ k : Nat, k ≤ n ∧ i = .int .i64 (k : Int) ∧ Below w.heap.size w wr) (fun i _ => n - (intOf i).toNat)
  case atStart => exact ⟨0, Nat.zero_le _, rfl, Below.refl _ _⟩
  case round =>
    obtain ⟨k, hk, rfl, hB⟩ := hrel
    by_cases hlt : k < n
    · obtain ⟨p, hp⟩ : ∃ p, l[k]? = some p := ⟨_, List.getElem?_eq_getElem (by have := HN.out; omega)⟩
      have hne : l ≠ [] := fun e => by rw [e] at hp; simp at hp
      obtain ⟨g, rfl, hg, h1⟩ := HV.out.resolve_left hne
      obtain ⟨h, rfl, hh, h2⟩ := HU.out.resolve_left hne
      obtain ⟨x0, u1, x1, w1⟩ := h1 k p hp
      obtain ⟨y0, u2, y1, w2⟩ := h2 k p hp
      have HW1 := Lib.hid w1
      have HW2 := Lib.hid w2
      obtain ⟨a1, c1, rfl, _⟩ := w1
      obtain ⟨a2, c2, rfl, _⟩ := w2
      have hpl := HP.out p (List.mem_of_getElem? hp)
      have HSM : Hid (∀ W, Below w.heap.size w W → Calls Try.prog 31 #[.slice a1 p.2.length c1, .slice a2 p.2.length c2] W fun e w' => e = .returned (.bool true) ∧ Below W.heap.size W w') := fun W hW => Try.Same_calls _ _ p.2 W hpl (HW1.out.later hW) (HW2.out.later hW)
      have HKC : Hid (∀ V, Below w.heap.size w V → (fun V => V.cell? ⟨g, k * 2, none⟩ = some (.int .i64 (p.1 : Nat)) ∧ V.cell? ⟨g, k * 2 + 1, none⟩ = some (.slice a1 p.2.length c1) ∧ V.cell? ⟨h, k * 2, none⟩ = some (.int .i64 (p.1 : Nat)) ∧ V.cell? ⟨h, k * 2 + 1, none⟩ = some (.slice a2 p.2.length c2)) V) := fun V hV => ⟨(hV.cell (p := ⟨g, _, none⟩) hg).trans x0, (hV.cell (p := ⟨g, _, none⟩) hg).trans x1, (hV.cell (p := ⟨h, _, none⟩) hh).trans y0, (hV.cell (p := ⟨h, _, none⟩) hh).trans y1⟩
      have hki : (k : Int) < (n : Int) := by omega
      clear hp hne h1 h2 x0 x1 y0 y1 hpl HW1 HW2
      go_upto_region 6 with (fail)
      have N0 := below_drew_s hB
      refine wp_region_held_drew (S := fun V => V.cell? ⟨g, k * 2, none⟩ = some (.int .i64 (p.1 : Nat)) ∧ V.cell? ⟨g, k * 2 + 1, none⟩ = some (.slice a1 p.2.length c1) ∧ V.cell? ⟨h, k * 2, none⟩ = some (.int .i64 (p.1 : Nat)) ∧ V.cell? ⟨h, k * 2 + 1, none⟩ = some (.slice a2 p.2.length c2)) (by kernel_rfl) (HKC.out _ N0) (fun hHeld0 => ?_)
      clear hHeld0
      generalize wr.drew = V0 at *
      refine wpAnyH_take (i := 0) (v := ?_) rfl (by kernel_rfl) (by kernel_rfl) (by kernel_rfl) (fun _ _ _ h => h) (Or.inl ⟨by kernel_rfl, ?_⟩) (HKC.out _ N0) ?_
      rotate_left
      · (intro w0 hSw; (try dsimp only at hSw); obtain ⟨e0, e1, e2, e3⟩ := hSw; go_simp; try with_reducible rfl)
      try dsimp only [List.getElem_toArray, List.getElem_cons_succ, List.getElem_cons_zero, Act.put]
      try simp only [List.setIfInBounds_toArray, List.set_cons_zero, List.set_cons_succ]
      refine wpAnyH_take (i := 1) (v := ?_) rfl (by kernel_rfl) (by kernel_rfl) (by kernel_rfl) (fun _ _ _ h => h) (Or.inl ⟨by kernel_rfl, ?_⟩) (HKC.out _ N0) ?_
      rotate_left
      · (intro w0 hSw; (try dsimp only at hSw); obtain ⟨e0, e1, e2, e3⟩ := hSw; go_simp; try with_reducible rfl)
      try dsimp only [List.getElem_toArray, List.getElem_cons_succ, List.getElem_cons_zero, Act.put]
      try simp only [List.setIfInBounds_toArray, List.set_cons_zero, List.set_cons_succ]
      refine wpAnyH_take (i := 2) (v := ?_) rfl (by kernel_rfl) (by kernel_rfl) (by kernel_rfl) (fun _ _ _ h => h) (Or.inl ⟨by kernel_rfl, ?_⟩) (HKC.out _ N0) ?_
      rotate_left
      · (intro w0 hSw; (try dsimp only at hSw); obtain ⟨e0, e1, e2, e3⟩ := hSw; go_simp; try with_reducible rfl)
      try dsimp only [List.getElem_toArray, List.getElem_cons_succ, List.getElem_cons_zero, Act.put]
      try simp only [List.setIfInBounds_toArray, List.set_cons_zero, List.set_cons_succ]
      refine wpAnyH_take (i := 3) (v := ?_) rfl (by kernel_rfl) (by kernel_rfl) (by kernel_rfl) (fun _ _ _ h => h) (Or.inl ⟨by kernel_rfl, ?_⟩) (HKC.out _ N0) ?_
      rotate_left
      · (intro w0 hSw; (try dsimp only at hSw); obtain ⟨e0, e1, e2, e3⟩ := hSw; go_simp; try with_reducible rfl)
      try dsimp only [List.getElem_toArray, List.getElem_cons_succ, List.getElem_cons_zero, Act.put]
      try simp only [List.setIfInBounds_toArray, List.set_cons_zero, List.set_cons_succ]
      refine wpAnyH_take (i := 4) (v := ?_) rfl (by kernel_rfl) (by kernel_rfl) (by kernel_rfl) (fun _ _ _ h => h) (Or.inl ⟨by kernel_rfl, ?_⟩) (HKC.out _ N0) ?_
      rotate_left
      · (intro w0 hSw; (try dsimp only at hSw); obtain ⟨e0, e1, e2, e3⟩ := hSw; go_simp; try with_reducible rfl)
      try dsimp only [List.getElem_toArray, List.getElem_cons_succ, List.getElem_cons_zero, Act.put]
      try simp only [List.setIfInBounds_toArray, List.set_cons_zero, List.set_cons_succ]
      refine wpAnyH_take (i := 5) (v := ?_) rfl (by kernel_rfl) (by kernel_rfl) (by kernel_rfl) (fun _ _ _ h => h) (Or.inl ⟨by kernel_rfl, ?_⟩) (HKC.out _ N0) ?_
      rotate_left
      · (intro w0 hSw; (try dsimp only at hSw); obtain ⟨e0, e1, e2, e3⟩ := hSw; go_simp; try with_reducible rfl)
      try dsimp only [List.getElem_toArray, List.getElem_cons_succ, List.getElem_cons_zero, Act.put]
      try simp only [List.setIfInBounds_toArray, List.set_cons_zero, List.set_cons_succ]
      refine wpAnyH_take (i := 6) (v := ?_) rfl (by kernel_rfl) (by kernel_rfl) (by kernel_rfl) (fun _ _ _ h => h) (Or.inl ⟨by kernel_rfl, ?_⟩) (HKC.out _ N0) ?_
      rotate_left
      · (intro w0 hSw; (try dsimp only at hSw); obtain ⟨e0, e1, e2, e3⟩ := hSw; go_simp; try with_reducible rfl)
      try dsimp only [List.getElem_toArray, List.getElem_cons_succ, List.getElem_cons_zero, Act.put]
      try simp only [List.setIfInBounds_toArray, List.set_cons_zero, List.set_cons_succ]
      refine wpAnyH_take (i := 7) (v := ?_) rfl (by kernel_rfl) (by kernel_rfl) (by kernel_rfl) (fun _ _ _ h => h) (Or.inl ⟨by kernel_rfl, ?_⟩) (HKC.out _ N0) ?_
      rotate_left
      · (intro w0 hSw; (try dsimp only at hSw); obtain ⟨e0, e1, e2, e3⟩ := hSw; go_simp; try with_reducible rfl)
      try dsimp only [List.getElem_toArray, List.getElem_cons_succ, List.getElem_cons_zero, Act.put]
      try simp only [List.setIfInBounds_toArray, List.set_cons_zero, List.set_cons_succ]
      refine wpAnyH_take (i := 8) (v := ?_) rfl (by kernel_rfl) (by kernel_rfl) (by kernel_rfl) (fun _ _ _ h => h) (Or.inl ⟨by kernel_rfl, ?_⟩) (HKC.out _ N0) ?_
      rotate_left
      · (intro w0 hSw; (try dsimp only at hSw); obtain ⟨e0, e1, e2, e3⟩ := hSw; go_simp; try with_reducible rfl)
      try dsimp only [List.getElem_toArray, List.getElem_cons_succ, List.getElem_cons_zero, Act.put]
      try simp only [List.setIfInBounds_toArray, List.set_cons_zero, List.set_cons_succ]
      refine wpAnyH_take (i := 9) (v := ?_) rfl (by kernel_rfl) (by kernel_rfl) (by kernel_rfl) (fun _ _ _ h => h) (Or.inl ⟨by kernel_rfl, ?_⟩) (HKC.out _ N0) ?_
      rotate_left
      · (intro w0 hSw; (try dsimp only at hSw); obtain ⟨e0, e1, e2, e3⟩ := hSw; go_simp; try with_reducible rfl)
      try dsimp only [List.getElem_toArray, List.getElem_cons_succ, List.getElem_cons_zero, Act.put]
      try simp only [List.setIfInBounds_toArray, List.set_cons_zero, List.set_cons_succ]
      refine wpAnyH_take (i := 10) (v := .bool false) rfl (by kernel_rfl) (by kernel_rfl) (by kernel_rfl) (fun _ _ _ h => h) (Or.inl ⟨by kernel_rfl, ?_⟩) (HKC.out _ N0) ?_
      · (intro w0 hSw; (try dsimp only at hSw); obtain ⟨e0, e1, e2, e3⟩ := hSw; go_simp <;> first | rfl | simp)
      try dsimp only [List.getElem_toArray, List.getElem_cons_succ, List.getElem_cons_zero, Act.put]
      try simp only [List.setIfInBounds_toArray, List.set_cons_zero, List.set_cons_succ]
      refine wpAnyH_take (i := 11) (v := ?_) rfl (by kernel_rfl) (by kernel_rfl) (by kernel_rfl) (fun _ _ _ h => h) (Or.inl ⟨by kernel_rfl, ?_⟩) (HKC.out _ N0) ?_
      rotate_left
      · (intro w0 hSw; (try dsimp only at hSw); obtain ⟨e0, e1, e2, e3⟩ := hSw; go_simp; try with_reducible rfl)
      try dsimp only [List.getElem_toArray, List.getElem_cons_succ, List.getElem_cons_zero, Act.put]
      try simp only [List.setIfInBounds_toArray, List.set_cons_zero, List.set_cons_succ]
      refine wpAnyH_take (i := 12) (v := ?_) rfl (by kernel_rfl) (by kernel_rfl) (by kernel_rfl) (fun _ _ _ h => h) (Or.inl ⟨by kernel_rfl, ?_⟩) (HKC.out _ N0) ?_
      rotate_left
      · (intro w0 hSw; (try dsimp only at hSw); obtain ⟨e0, e1, e2, e3⟩ := hSw; go_simp; try with_reducible rfl)
      try dsimp only [List.getElem_toArray, List.getElem_cons_succ, List.getElem_cons_zero, Act.put]
      try simp only [List.setIfInBounds_toArray, List.set_cons_zero, List.set_cons_succ]
      refine wpAnyH_take (i := 13) (v := ?_) rfl (by kernel_rfl) (by kernel_rfl) (by kernel_rfl) (fun _ _ _ h => h) (Or.inl ⟨by kernel_rfl, ?_⟩) (HKC.out _ N0) ?_
      rotate_left
      · (intro w0 hSw; (try dsimp only at hSw); obtain ⟨e0, e1, e2, e3⟩ := hSw; go_simp; try with_reducible rfl)
      try dsimp only [List.getElem_toArray, List.getElem_cons_succ, List.getElem_cons_zero, Act.put]
      try simp only [List.setIfInBounds_toArray, List.set_cons_zero, List.set_cons_succ]
      refine wpAnyH_take (i := 14) (v := ?_) rfl (by kernel_rfl) (by kernel_rfl) (by kernel_rfl) (fun _ _ _ h => h) (Or.inl ⟨by kernel_rfl, ?_⟩) (HKC.out _ N0) ?_
      rotate_left
      · (intro w0 hSw; (try dsimp only at hSw); obtain ⟨e0, e1, e2, e3⟩ := hSw; go_simp; try with_reducible rfl)
      try dsimp only [List.getElem_toArray, List.getElem_cons_succ, List.getElem_cons_zero, Act.put]
      try simp only [List.setIfInBounds_toArray, List.set_cons_zero, List.set_cons_succ]
      refine wpAnyH_take (i := 15) (v := ?_) rfl (by kernel_rfl) (by kernel_rfl) (by kernel_rfl) (fun _ _ _ h => h) (Or.inl ⟨by kernel_rfl, ?_⟩) (HKC.out _ N0) ?_
      rotate_left
      · (intro w0 hSw; (try dsimp only at hSw); obtain ⟨e0, e1, e2, e3⟩ := hSw; go_simp; try with_reducible rfl)
      try dsimp only [List.getElem_toArray, List.getElem_cons_succ, List.getElem_cons_zero, Act.put]
      try simp only [List.setIfInBounds_toArray, List.set_cons_zero, List.set_cons_succ]
      refine wpAnyH_take (i := 16) (v := ?_) rfl (by kernel_rfl) (by kernel_rfl) (by kernel_rfl) (fun _ _ _ h => h) (Or.inl ⟨by kernel_rfl, ?_⟩) (HKC.out _ N0) ?_
      rotate_left
      · (intro w0 hSw; (try dsimp only at hSw); obtain ⟨e0, e1, e2, e3⟩ := hSw; go_simp; try with_reducible rfl)
      try dsimp only [List.getElem_toArray, List.getElem_cons_succ, List.getElem_cons_zero, Act.put]
      try simp only [List.setIfInBounds_toArray, List.set_cons_zero, List.set_cons_succ]
      refine wpAnyH_take (i := 17) (v := ?_) rfl (by kernel_rfl) (by kernel_rfl) (by kernel_rfl) (fun _ _ _ h => h) (Or.inl ⟨by kernel_rfl, ?_⟩) (HKC.out _ N0) ?_
      rotate_left
      · (intro w0 hSw; (try dsimp only at hSw); obtain ⟨e0, e1, e2, e3⟩ := hSw; go_simp; try with_reducible rfl)
      try dsimp only [List.getElem_toArray, List.getElem_cons_succ, List.getElem_cons_zero, Act.put]
      try simp only [List.setIfInBounds_toArray, List.set_cons_zero, List.set_cons_succ]
      refine wpAnyH_take (i := 18) (v := ?_) rfl (by kernel_rfl) (by kernel_rfl) (by kernel_rfl) (fun _ _ _ h => h) (Or.inl ⟨by kernel_rfl, ?_⟩) (HKC.out _ N0) ?_
      rotate_left
      · (intro w0 hSw; (try dsimp only at hSw); obtain ⟨e0, e1, e2, e3⟩ := hSw; go_simp; try with_reducible rfl)
      try dsimp only [List.getElem_toArray, List.getElem_cons_succ, List.getElem_cons_zero, Act.put]
      try simp only [List.setIfInBounds_toArray, List.set_cons_zero, List.set_cons_succ]
      refine wpAnyH_take (i := 19) (v := ?_) rfl (by kernel_rfl) (by kernel_rfl) (by kernel_rfl) (fun _ _ _ h => h) (Or.inl ⟨by kernel_rfl, ?_⟩) (HKC.out _ N0) ?_
      rotate_left
      · (intro w0 hSw; (try dsimp only at hSw); obtain ⟨e0, e1, e2, e3⟩ := hSw; go_simp; try with_reducible rfl)
      try dsimp only [List.getElem_toArray, List.getElem_cons_succ, List.getElem_cons_zero, Act.put]
      try simp only [List.setIfInBounds_toArray, List.set_cons_zero, List.set_cons_succ]
      refine wpAnyH_take (i := 20) (v := ?_) rfl (by kernel_rfl) (by kernel_rfl) (by kernel_rfl) (fun _ _ _ h => h) (Or.inl ⟨by kernel_rfl, ?_⟩) (HKC.out _ N0) ?_
      rotate_left
      · (intro w0 hSw; (try dsimp only at hSw); obtain ⟨e0, e1, e2, e3⟩ := hSw; go_simp; try with_reducible rfl)
      try dsimp only [List.getElem_toArray, List.getElem_cons_succ, List.getElem_cons_zero, Act.put]
      try simp only [List.setIfInBounds_toArray, List.set_cons_zero, List.set_cons_succ]
      refine wpAnyH_take (i := 21) (v := ?_) rfl (by kernel_rfl) (by kernel_rfl) (by kernel_rfl) (fun _ _ _ h => h) (Or.inl ⟨by kernel_rfl, ?_⟩) (HKC.out _ N0) ?_
      rotate_left
      · (intro w0 hSw; (try dsimp only at hSw); obtain ⟨e0, e1, e2, e3⟩ := hSw; go_simp; try with_reducible rfl)
      try dsimp only [List.getElem_toArray, List.getElem_cons_succ, List.getElem_cons_zero, Act.put]
      try simp only [List.setIfInBounds_toArray, List.set_cons_zero, List.set_cons_succ]
      refine wpAnyH_ready (rs := [22]) (by kernel_rfl) (by simp) (AllReadyH.cons rfl (fun KK hKK => ?_) AllReadyH.nil)
      go_simp
      go_at_call 31
      (with_reducible refine (HSM.out _ N0).mono ?_)
      rintro e W22 ⟨rfl, hb22⟩
      have N1 := N0.trans (hb22.mono N0.size)
      refine hKK.out _ _ (HKC.out _ N1) (fun _ => ?_)
      clear hKK KK
      try dsimp only [List.getElem_toArray, List.getElem_cons_succ, List.getElem_cons_zero, Act.put]
      try simp only [List.setIfInBounds_toArray, List.set_cons_zero, List.set_cons_succ]
      clear N0 hb22
      refine wpAnyH_take (i := 23) (v := ?_) rfl (by kernel_rfl) (by kernel_rfl) (by kernel_rfl) (fun _ _ _ h => h) (Or.inl ⟨by kernel_rfl, ?_⟩) (HKC.out _ N1) ?_
      rotate_left
      · (intro w0 hSw; (try dsimp only at hSw); obtain ⟨e0, e1, e2, e3⟩ := hSw; go_simp; try with_reducible rfl)
      try dsimp only [List.getElem_toArray, List.getElem_cons_succ, List.getElem_cons_zero, Act.put]
      try simp only [List.setIfInBounds_toArray, List.set_cons_zero, List.set_cons_succ]
      refine wpAnyH_take (i := 24) (v := ?_) rfl (by kernel_rfl) (by kernel_rfl) (by kernel_rfl) (fun _ _ _ h => h) (Or.inl ⟨by kernel_rfl, ?_⟩) (HKC.out _ N1) ?_
      rotate_left
      · (intro w0 hSw; (try dsimp only at hSw); obtain ⟨e0, e1, e2, e3⟩ := hSw; go_simp; try with_reducible rfl)
      try dsimp only [List.getElem_toArray, List.getElem_cons_succ, List.getElem_cons_zero, Act.put]
      try simp only [List.setIfInBounds_toArray, List.set_cons_zero, List.set_cons_succ]
      refine wpAnyH_done (by kernel_rfl) ?_ _
      try dsimp only [List.getElem_toArray, List.getElem_cons_succ, List.getElem_cons_zero, Act.put]
      try simp only [List.setIfInBounds_toArray, List.set_cons_zero, List.set_cons_succ]
      go_wp2
      go_roundw
      case rel => exact ⟨k + 1, by omega, by go_num, N1⟩
      case measure => simp [intOf]; omega
    · obtain rfl : k = n := by omega
      clear hlt hk
      go_wp2
      go_ret
      exact ⟨rfl, hB⟩
end Go.Proofs
