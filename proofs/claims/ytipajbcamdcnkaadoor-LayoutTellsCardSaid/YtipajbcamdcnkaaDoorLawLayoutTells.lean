/- The law LayoutTells of layer 7, as a contract: it answers true at every input. Conditions: the array of keywords holds what the card lays. -/
import Derived.Test.YtipajbcamdcnkaaDoorLayoutShown
namespace Go.Proofs
open Go.RowKit Go.Shelf Go.Layout Go.TextTab
attribute [local go_sem] Oper.semAt_some

set_option maxRecDepth 100000 in
set_option maxHeartbeats 1000000 in
theorem Tryd.LayoutTells_out (k n i j : Int) (s : ByteArray) (w : World) (hT : LayTab w) (h : decide ((100 : Int) < (s.size : Int)) = true ∨ (decide ((100 : Int) < (s.size : Int)) = false ∧ decide (60 < n) = true ∧ decide (n ≤ 400) = true)) :
    Calls Tryd.prog 3 #[.int .i64 k, .int .i64 n, .int .i64 i, .int .i64 j, .string s] w fun e w' => e = .returned (.bool true) ∧ Below w.heap.size w w' := by
  have S := Tryd.shown_calls w hT
  clear hT
  rcases h with c1 | ⟨c1, c2, c3⟩
  all_goals
    go_enter Tryd.func3, Tryd.ntmps3
    go_wp2_with (go_at_call 9; (with_reducible refine S.mono ?_); rintro e w3 ⟨rfl, hb⟩)
    go_ret
    exact ⟨rfl, hb⟩

set_option maxRecDepth 100000 in
set_option maxHeartbeats 1000000 in
theorem Tryd.LayoutTells_in (k n i j : Int) (s : ByteArray) (w : World) (hT : LayTab w) (c1 : decide ((100 : Int) < (s.size : Int)) = false) (h : decide (60 < n) = false ∨ (decide (60 < n) = true ∧ decide (n ≤ 400) = false)) :
    Calls Tryd.prog 3 #[.int .i64 k, .int .i64 n, .int .i64 i, .int .i64 j, .string s] w fun e w' => e = .returned (.bool true) ∧ Below w.heap.size w w' := by
  have S := Tryd.shown_calls w hT
  have HT := Lib.hid hT
  have C := fun (w : World) => Tryd.Count_any k n w
  have RC := fun (w : World) => Tryd.RCount_any k n w
  have X := fun (w : World) => Tryd.Index_any k n i j w
  have RX := fun (w : World) => Tryd.RIndex_calls k n i j w
  have K := fun (w : World) (h : LayTab w) => Tryd.Keyword_calls k w h
  have RK := fun (w : World) => Tryd.RLKeyword_calls k w
  have O := fun (w : World) (h : LayTab w) => Tryd.Of_calls s w h
  have RO := fun (w : World) => Tryd.RLOf_calls s w
  generalize countE k n = c at C RC
  generalize indexE k n i j = x at X RX
  generalize lkwS k = t at K RK
  generalize lofR s = o at O RO
  have et : (t.toList == t.toList) = true := beq_self_eq_true _
  have HK := Lib.hid K
  have HO := Lib.hid O
  clear hT K O
  rcases h with c2 | ⟨c2, c3⟩
  all_goals
    go_enter Tryd.func3, Tryd.ntmps3
    go_wp2_with (go_at_call 9; (with_reducible refine S.mono ?_); rintro e w1 ⟨rfl, hb1⟩; clear S)
    refine (C _).mono ?_
    rintro e w2 ⟨rfl, hb2⟩
    go_wp2_with (go_at_call 11; (with_reducible refine (RC _).mono ?_); rintro e w3 ⟨rfl, hw3⟩; obtain rfl : w2 = w3 := hw3.symm)
    refine (X _).mono ?_
    rintro e w4 ⟨rfl, hb4⟩
    have hB := hb1.trans ((hb2.trans (hb4.mono hb2.size)).mono hb1.size)
    go_wp2_with (first
      | (go_at_call 13; (with_reducible refine (RX _).mono ?_); rintro e w5 ⟨rfl, hw5⟩; obtain rfl : w4 = w5 := hw5.symm)
      | (go_at_call 14; (with_reducible refine (HK.out _ (HT.out.below hB)).mono ?_); rintro e w6 ⟨rfl, hw6⟩; obtain rfl : w4 = w6 := hw6.symm)
      | (go_at_call 15; (with_reducible refine (RK _).mono ?_); rintro e w7 ⟨rfl, hw7⟩; obtain rfl : w4 = w7 := hw7.symm)
      | (go_at_call 16; (with_reducible refine (HO.out _ (HT.out.below hB)).mono ?_); rintro e w8 ⟨rfl, hw8⟩; obtain rfl : w4 = w8 := hw8.symm)
      | (go_at_call 17; (with_reducible refine (RO _).mono ?_); rintro e w9 ⟨rfl, hw9⟩; obtain rfl : w4 = w9 := hw9.symm))
    go_ret
    exact ⟨rfl, hB⟩
theorem Tryd.LayoutTells_calls (k n i j : Int) (s : ByteArray) (w : World) (hT : LayTab w) :
    Calls Tryd.prog 3 #[.int .i64 k, .int .i64 n, .int .i64 i, .int .i64 j, .string s] w fun e w' => e = .returned (.bool true) ∧ Below w.heap.size w w' := by
  by_cases h1 : (100 : Int) < (s.size : Int)
  · exact Tryd.LayoutTells_out k n i j s w hT (.inl (decide_eq_true h1))
  · by_cases h2 : 60 < n
    · by_cases h3 : n ≤ 400
      · exact Tryd.LayoutTells_out k n i j s w hT (.inr ⟨decide_eq_false h1, decide_eq_true h2, decide_eq_true h3⟩)
      · exact Tryd.LayoutTells_in k n i j s w hT (decide_eq_false h1) (.inr ⟨decide_eq_true h2, decide_eq_false h3⟩)
    · exact Tryd.LayoutTells_in k n i j s w hT (decide_eq_false h1) (.inl (decide_eq_false h2))
#print axioms Tryd.LayoutTells_calls
end Go.Proofs
