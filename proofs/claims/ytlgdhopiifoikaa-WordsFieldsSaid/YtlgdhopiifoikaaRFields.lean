/- The document's own Fields of this program, as a contract. Conditions: a text of at most two million bytes. -/
import Derived.Test.YtlgdhopiifoikaaFields
import Derived.Test.YtlgdhopiifoikaaRuns
import Derived.Laws.OwnMore
namespace Go.Wds
theorem words_skip {l : List UInt8} {a k : Nat} (h : a ≤ k) {c : UInt8} (hc : l[k]? = some c) (hb : blk c = true) : wordsL l a (k + 1) = wordsL l a k := by
  rw [wordsL_succ h]; unfold grow; rw [if_pos (by rw [hc]; simpa using hb)]
theorem words_new {l : List UInt8} {a k : Nat} (h : a ≤ k) {c : UInt8} (hc : l[k]? = some c) (hb : blk c = false) (h0 : k = a ∨ ∃ d, l[k - 1]? = some d ∧ blk d = true) : wordsL l a (k + 1) = wordsL l a k ++ [(k, k + 1)] := by
  rw [wordsL_succ h]; unfold grow; rw [if_neg (by rw [hc]; simp [hb]), if_neg]
  rintro ⟨h1, h2⟩
  rcases h0 with rfl | ⟨d, hd, hd2⟩
  · omega
  · rw [hd] at h2; simp [hd2] at h2
theorem words_more {l : List UInt8} {a k q : Nat} {pre : List (Nat × Nat)} (h : a < k) {c d : UInt8} (hc : l[k]? = some c) (hb : blk c = false) (hd : l[k - 1]? = some d) (hd2 : blk d = false) (hp : wordsL l a k = pre ++ [(q, k)]) : wordsL l a (k + 1) = pre ++ [(q, k + 1)] := by
  rw [wordsL_succ (by omega)]; unfold grow; rw [if_neg (by rw [hc]; simp [hb]), if_pos ⟨h, by rw [hd]; simpa using hd2⟩, hp]
  simp
theorem wordCells_len (ps : List (Nat × Nat)) : (wordCells ps).length = ps.length * 2 := by
  induction ps with
  | nil => rfl
  | cons p ps ih => simp only [wordCells, List.flatMap_cons, List.length_append, List.length_cons, List.length_nil] at *; omega
theorem wordCells_set (pre : List (Nat × Nat)) (q k j : Nat) : (wordCells (pre ++ [(q, k)])).set (pre.length * 2 + 1) (.int .i64 (j : Nat)) = wordCells (pre ++ [(q, j)]) := by
  rw [wordCells_snoc, wordCells_snoc, List.set_append_right _ _ (by rw [wordCells_len]; omega), wordCells_len, show pre.length * 2 + 1 - pre.length * 2 = 1 from by omega]
  rfl
end Go.Wds
namespace Go.Proofs
open Go.RowKit Go.Shelf Go.Wds

set_option maxRecDepth 100000 in
set_option maxHeartbeats 2000000 in
theorem Try.rFields_calls (s : ByteArray) (a b : Int) (w : World) (hs : s.size ≤ 2000000) :
    Calls Try.prog 14 #[.string s, .int .i64 a, .int .i64 b] w fun e w' => ∃ v, e = .returned v ∧ HasWords w' v (fieldsI s a b) ∧ Below w.heap.size w w' := by
  cases h : inB s.size a b with
  | false =>
    have hc := Lib.hid fun w => Try.places_calls s a b w
    rw [h] at hc
    have H := Lib.hid (show fieldsI s a b = [] by unfold fieldsI; rw [h]; rfl)
    clear h
    go_enter Try.func14, Try.ntmps14
    go_wp2_with (go_at_call 29; (with_reducible refine (hc.out _).mono ?_); rintro e w1 ⟨rfl, rfl⟩)
    go_ret
    rw [H.out]
    exact ⟨_, rfl, hasWords_of_owns (owns_empty2 _ 33), (Below.refl _ _).alloc (Nat.le_refl _) _⟩
  | true =>
    obtain ⟨x, y, rfl, rfl, hxy, hy⟩ := inB_out h
    have hc := Lib.hid fun w => Try.places_calls s (x : Int) (y : Int) w
    have H := Lib.hid (show fieldsI s (x : Int) (y : Int) = wordsL s.data.toList x y by unfold fieldsI; rw [if_pos h]; rfl)
    rw [h] at hc
    clear h
    obtain ⟨i0, hi, hz0, hz1, hz2⟩ := info_parts Try.info33
    have HI := Lib.hid hi
    clear hi
    have O0 := Lib.hid (owns_empty2 w 33)
    go_enter Try.func14, Try.ntmps14
    go_wp2_with (go_at_call 29; (with_reducible refine (hc.out _).mono ?_); rintro e w1 ⟨rfl, rfl⟩)
    go_loopw [7, 8] (fun v i wr => ∃ k : Nat, i = .int .i64 (k : Int) ∧ x ≤ k ∧ k ≤ y ∧ wr.ownsRow w.heap.size 33 2 v (wordsL s.data.toList x k).length (wordCells (wordsL s.data.toList x k)) ∧ Below w.heap.size w wr) (fun _ i _ => y - (intOf i).toNat)
    case atStart => exact ⟨x, rfl, Nat.le_refl _, hxy, by rw [words_nil]; exact O0.out, (Below.refl _ w).alloc (Nat.le_refl _) _⟩
    case round =>
      obtain ⟨k, rfl, hxk, hky, hown, hB⟩ := hrel
      by_cases hlt : k < y
      · have hks : k < s.size := by omega
        have hB1 : w.heap.size ≤ wr.heap.size := hB.size
        have c1 := Try.blank_calls (s[k]'hks) wr
        have hg := list_get s k hks
        have hwl := words_len s.data.toList x k
        have hml : (wordsL s.data.toList x k).length + 1 ≤ maxLen := by unfold maxLen; omega
        have hml2 : ((wordsL s.data.toList x k).length + 1) * 16 ≤ 140737488355328 := by omega
        clear hwl
        cases hb : blk (s[k]'hks) with
        | true =>
          rw [hb] at c1
          have C1 := Lib.hid c1
          have HW := Lib.hid (words_skip hxk hg hb)
          clear c1 hg hb
          go_wp2_with (go_at_call 30; (with_reducible refine C1.out.mono ?_); rintro e w2 ⟨rfl, rfl⟩)
          go_roundw
          case rel => exact ⟨k + 1, by go_num, by omega, by omega, by rw [HW.out]; exact hown, hB⟩
          case measure => simp [intOf]; omega
        | false =>
          rw [hb] at c1
          have C1 := Lib.hid c1
          by_cases hfirst : x < k
          · have hks1 : k - 1 < s.size := by omega
            have hb1 : 0 ≤ (k : Int) - 1 := by omega
            have hb2 : ((k : Int) - 1).toNat = k - 1 := by omega
            have c2 := Try.blank_calls (s[k - 1]'hks1) wr
            have hg2 := list_get s (k - 1) hks1
            have d1 : decide (x < k) = true := decide_eq_true hfirst
            cases hbb : blk (s[k - 1]'hks1) with
            | true =>
              rw [hbb] at c2
              have C2 := Lib.hid c2
              have HW := Lib.hid (words_new hxk hg hb (.inr ⟨_, hg2, hbb⟩))
              clear c1 c2 hg hb hg2 hbb
              go_wp2_with (fail)
              refine C1.out.mono ?_
              rintro e w2 ⟨rfl, rfl⟩
              go_wp2_with (fail)
              refine C2.out.mono ?_
              rintro e w3 ⟨rfl, rfl⟩
              go_wp2_with (at_builtin; refine wpList_append_own _ rfl _ _ 24 rfl w.heap.size 33 i0 (.agg #[.int .i64 0, .int .i64 0]) 2 16 Try.underlying24 HI.out hz0 hz1 hz2 rfl (by decide) _ _ _ rfl (hown.alloc _) ⟨w3.heap.size, 0, none⟩ 1 1 [.int .i64 (k : Nat), .int .i64 ((k : Int) + 1)] rfl rfl (cells_new w3 #[.int .i64 (k : Nat), .int .i64 ((k : Int) + 1)] 33) (by simp [Value.oneCell']) hml hml2 (by simp; omega) ?_; intro v' W2 hown' hgrow _)
              go_roundw
              case rel => exact ⟨k + 1, by go_num, by omega, by omega, by rw [HW.out, wordCells_snoc, List.length_append]; exact hown', grown_below hB hB1 hown hgrow⟩
              case measure => simp [intOf]; omega
            | false =>
              rw [hbb] at c2
              have C2 := Lib.hid c2
              obtain ⟨pre, q, hpre⟩ := words_last hfirst hg2 hbb
              have HW := Lib.hid (words_more hfirst hg hb hg2 hbb hpre)
              have hpl : pre.length ≤ 2000000 := by
                have h1 := words_len s.data.toList x k
                rw [hpre, List.length_append] at h1
                simp only [List.length_cons, List.length_nil] at h1
                omega
              rw [hpre, List.length_append] at hown
              clear c1 c2 hg hb hg2 hbb
              have hown2 : wr.ownsRow w.heap.size 33 2 _ (pre.length + 1) (wordCells (pre ++ [(q, k)])) := hown
              rcases hown2.2 with ⟨_, h0⟩ | ⟨g, cap, cur, rfl, hgb, _⟩
              · omega
              have hset := (hown2.stored (pre.length * 2 + 1) (.int .i64 ((k + 1 : Nat) : Int)))
              rw [wordCells_set] at hset
              have hcell := hown2.cellAt (pre.length * 2 + 1) (by omega)
              rw [wordCells_snoc, List.getElem?_append_right (by rw [wordCells_len]; omega), wordCells_len, show pre.length * 2 + 1 - pre.length * 2 = 1 from by omega] at hcell
              have hfr := hown2.frozenAt (pre.length * 2 + 1)
              have HS := Lib.hid hset
              clear hset hpre hown
              simp only [List.getElem?_cons_succ, List.getElem?_cons_zero] at hcell
              go_wp2_with (fail)
              refine C1.out.mono ?_
              rintro e w2 ⟨rfl, rfl⟩
              go_wp2_with (fail)
              refine C2.out.mono ?_
              rintro e w3 ⟨rfl, rfl⟩
              go_wp2
              go_roundw
              case rel => exact ⟨k + 1, by go_num, by omega, by omega, by rw [HW.out, List.length_append]; exact HS.out.1, hB.grown HS.out.2 hB1 (fun j e => by cases e; exact hgb)⟩
              case measure => simp [intOf]; omega
          · have hkx : k = x := by omega
            have d1 : decide (x < k) = false := decide_eq_false hfirst
            have HW := Lib.hid (words_new hxk hg hb (.inl hkx))
            clear c1 hg hb hfirst hkx
            go_wp2_with (fail)
            refine C1.out.mono ?_
            rintro e w2 ⟨rfl, rfl⟩
            go_wp2_with (at_builtin; refine wpList_append_own _ rfl _ _ 24 rfl w.heap.size 33 i0 (.agg #[.int .i64 0, .int .i64 0]) 2 16 Try.underlying24 HI.out hz0 hz1 hz2 rfl (by decide) _ _ _ rfl (hown.alloc _) ⟨w2.heap.size, 0, none⟩ 1 1 [.int .i64 (k : Nat), .int .i64 ((k : Int) + 1)] rfl rfl (cells_new w2 #[.int .i64 (k : Nat), .int .i64 ((k : Int) + 1)] 33) (by simp [Value.oneCell']) hml hml2 (by simp; omega) ?_; intro v' W2 hown' hgrow _)
            go_roundw
            case rel => exact ⟨k + 1, by go_num, by omega, by omega, by rw [HW.out, wordCells_snoc, List.length_append]; exact hown', grown_below hB hB1 hown hgrow⟩
            case measure => simp [intOf]; omega
      · have hkk : k = y := by omega
        subst hkk
        have HO := Lib.hid (hasWords_of_owns hown)
        clear hown
        go_wp2
        go_ret
        rw [H.out]
        exact ⟨_, rfl, HO.out, hB⟩
#print axioms Try.rFields_calls
end Go.Proofs
