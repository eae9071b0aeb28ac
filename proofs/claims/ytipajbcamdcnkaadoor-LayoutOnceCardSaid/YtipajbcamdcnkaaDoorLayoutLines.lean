/- Small functions of package layout: known, may, within, span; the iterator spans: it tells the lines of a matrix, from which cell to which one. Conditions: of spans, a layout of 1 to 7 and 1 to 400 rows. -/
import Derived.Test.YtipajbcamdcnkaaDoorLayoutWays
import Derived.Test.YtipajbcamdcnkaaDoorSeq
import Derived.OwnWalkIn
import Derived.TacticsInMore
namespace Go.Proofs
open Go.RowKit Go.Shelf Go.Layout
attribute [local go_sem] Oper.semAt_some

def knownB (k : Int) : Bool := decide (1 ≤ k) && decide (k ≤ 7)
theorem mayB_known (k n : Int) : mayB k n = (knownB k && (decide (1 ≤ n) && decide (n ≤ 400))) := rfl
set_option maxRecDepth 100000 in
theorem Tryd.known_calls (k : Int) (w : World) :
    Calls Tryd.prog 30 #[.int .i64 k] w fun e w' => e = .returned (.bool (knownB k)) ∧ w' = w := by
  by_cases h1 : 1 ≤ k
  · by_cases h2 : k ≤ 7
    · go_enter Tryd.func30, Tryd.ntmps30
      go_wp2
      go_ret
      exact ⟨lret_is (by simp [knownB]; omega), rfl⟩
    · go_enter Tryd.func30, Tryd.ntmps30
      go_wp2
      go_ret
      exact ⟨lret_is (by simp [knownB]; omega), rfl⟩
  · go_enter Tryd.func30, Tryd.ntmps30
    go_wp2
    go_ret
    exact ⟨lret_is (by simp [knownB]; omega), rfl⟩
set_option maxRecDepth 100000 in
theorem Tryd.may_calls (k n : Int) (w : World) :
    Calls Tryd.prog 23 #[.int .i64 k, .int .i64 n] w fun e w' => e = .returned (.bool (mayB k n)) ∧ w' = w := by
  have K := fun (w : World) => Tryd.known_calls k w
  rw [mayB_known]
  cases hk : knownB k with
  | false =>
    rw [hk] at K
    go_enter Tryd.func23, Tryd.ntmps23
    go_wp2_with (go_at_call 30; (with_reducible refine (K _).mono ?_); rintro e w1 ⟨rfl, hw1⟩; obtain rfl : w = w1 := hw1.symm)
    go_ret
    exact ⟨lret_is (by simp), rfl⟩
  | true =>
    rw [hk] at K
    by_cases h3 : 1 ≤ n
    · by_cases h4 : n ≤ 400
      · go_enter Tryd.func23, Tryd.ntmps23
        go_wp2_with (go_at_call 30; (with_reducible refine (K _).mono ?_); rintro e w1 ⟨rfl, hw1⟩; obtain rfl : w = w1 := hw1.symm)
        go_ret
        exact ⟨lret_is (by simp; omega), rfl⟩
      · go_enter Tryd.func23, Tryd.ntmps23
        go_wp2_with (go_at_call 30; (with_reducible refine (K _).mono ?_); rintro e w1 ⟨rfl, hw1⟩; obtain rfl : w = w1 := hw1.symm)
        go_ret
        exact ⟨lret_is (by simp; omega), rfl⟩
    · go_enter Tryd.func23, Tryd.ntmps23
      go_wp2_with (go_at_call 30; (with_reducible refine (K _).mono ?_); rintro e w1 ⟨rfl, hw1⟩; obtain rfl : w = w1 := hw1.symm)
      go_ret
      exact ⟨lret_is (by simp; omega), rfl⟩
def withinB (i n : Int) : Bool := decide (0 ≤ i) && decide (i < n)
set_option maxRecDepth 100000 in
theorem Tryd.within_calls (i n : Int) (w : World) :
    Calls Tryd.prog 26 #[.int .i64 i, .int .i64 n] w fun e w' => e = .returned (.bool (withinB i n)) ∧ w' = w := by
  by_cases h1 : 0 ≤ i
  · by_cases h2 : i < n
    · go_enter Tryd.func26, Tryd.ntmps26
      go_wp2
      go_ret
      exact ⟨lret_is (by simp [withinB]; omega), rfl⟩
    · go_enter Tryd.func26, Tryd.ntmps26
      go_wp2
      go_ret
      exact ⟨lret_is (by simp [withinB]; omega), rfl⟩
  · go_enter Tryd.func26, Tryd.ntmps26
    go_wp2
    go_ret
    exact ⟨lret_is (by simp [withinB]; omega), rfl⟩
theorem two_is {a b c d : Int} (h : a = c) (g : b = d) : Ending.returned (.tuple #[.int .i64 a, .int .i64 b]) = .returned (.tuple #[.int .i64 c, .int .i64 d]) := by rw [h, g]
set_option maxRecDepth 100000 in
theorem Tryd.span_calls (k n a : Nat) (w : World) (hk : 1 ≤ k) (hk7 : k ≤ 7) (hn4 : n ≤ 400) (ha : a < n) :
    Calls Tryd.prog 35 #[.int .i64 (k : Int), .int .i64 (n : Int), .int .i64 (a : Int)] w fun e w' => e = .returned (.tuple #[.int .i64 (beg k a : Int), .int .i64 (fin k n a : Int)]) ∧ w' = w := by
  rcases (show k = 1 ∨ k = 2 ∨ k = 3 ∨ k = 4 ∨ k = 5 ∨ k = 6 ∨ k = 7 by omega) with rfl | rfl | rfl | rfl | rfl | rfl | rfl
  all_goals
    go_enter Tryd.func35, Tryd.ntmps35
    go_wp2
    go_ret2
    exact ⟨two_is (by simp [beg]) (by simp [fin]), rfl⟩

def numV (x : Nat) : Value := .int .i64 (x : Int)
def lineV (k n a : Nat) : Array Value := #[.int .i64 (beg k a : Int), .int .i64 (fin k n a : Int)]
def linesV (k n : Nat) : List (Array Value) := (List.range n).map (lineV k n)
theorem linesV_length (k n : Nat) : (linesV k n).length = n := by simp [linesV]
theorem linesV_get {k n a : Nat} {x : Array Value} (h : (linesV k n)[a]? = some x) : x = #[.int .i64 (beg k a : Int), .int .i64 (fin k n a : Int)] ∧ a < n := by
  simp only [linesV, List.getElem?_map, Option.map_eq_some_iff] at h
  obtain ⟨b, h1, rfl⟩ := h
  obtain ⟨h2, h3⟩ := List.getElem?_eq_some_iff.1 h1
  simp at h2 h3
  subst h3
  exact ⟨rfl, h2⟩
theorem linesV_at {k n a : Nat} (h : a < n) : (linesV k n)[a]? = some (lineV k n a) := by simp [linesV, h]

theorem Tryd.spans_calls (k n : Int) (w : World) :
    Calls Tryd.prog 24 #[.int .i64 k, .int .i64 n] w fun e w' => e = .returned (.func (.func 34) #[] #[.pointer (some ⟨w.heap.size + 1, 0, none⟩), .pointer (some ⟨w.heap.size, 0, none⟩)]) ∧ w' = (w.alloc (.cells #[.int .i64 k] 3)).alloc (.cells #[.int .i64 n] 3) := by
  go_enter Tryd.func24, Tryd.ntmps24
  go_wp2
  go_ret
  exact ⟨by simp, rfl⟩

set_option maxRecDepth 100000 in
set_option maxHeartbeats 1000000 in
theorem Tryd.spans1_seq (T : Nat → TypeId → Bool) (Bk Bn k n : Nat) (w : World) (hk : 1 ≤ k) (hk7 : k ≤ 7) (hn4 : n ≤ 400) (hTk : T Bk 3 = true) (hTn : T Bn 3 = true)
    (hbk : Boxed w Bk 3 (.int .i64 (k : Int))) (hbn : Boxed w Bn 3 (.int .i64 (n : Int))) :
    Seq T Tryd.prog 34 #[.pointer (some ⟨Bn, 0, none⟩), .pointer (some ⟨Bk, 0, none⟩)] (linesV k n) w := by
  intro l J Jx W hW hJ hJx hY h0
  have hkW : Boxed W Bk 3 (.int .i64 (k : Int)) := (hW.block Bk hbk.lt).trans hbk
  have hnW : Boxed W Bn 3 (.int .i64 (n : Int)) := (hW.block Bn hbn.lt).trans hbn
  have hcn := hnW.cell
  refine (callsIn_wide (n := 0)).1 (callsIn_of_wp Tryd.func34 rfl trivial ?_ rfl)
  simp only [Tryd.ntmps34, List.size_toArray, List.length_cons, List.length_nil, Nat.reduceAdd, Nat.reduceSub, Array.replicate_succ, Array.replicate_zero, List.push_toArray, List.append_toArray, List.nil_append, List.cons_append]
  gi_wp2
  gi_loopw [6] (fun v wr => ∃ a : Nat, a ≤ n ∧ v = .int .i64 (a : Int) ∧ Boxed wr Bk 3 (.int .i64 (k : Int)) ∧ Boxed wr Bn 3 (.int .i64 (n : Int)) ∧ J a wr)
    (fun v _ => n - (intOf v).toNat)
  case atStart => exact ⟨0, Nat.zero_le _, rfl, hkW, hnW, h0⟩
  case round =>
    obtain ⟨a, ha, rfl, hbk1, hbn1, hj⟩ := hrel
    have hck := hbk1.cell
    have hcn1 := hbn1.cell
    by_cases hlt : a < n
    · obtain ⟨fn, tmps, assign, body, hy, hR⟩ := hY a _ _ (linesV_at hlt) hj
      have C := fun (w : World) => Tryd.span_calls k n a w hk hk7 hn4 hlt
      clear hY hJx hJ
      simp only [lineV] at hy
      have HR := Lib.hid hR
      clear hR
      gi_wp2_with (refine ⟨trivial, rfl, ?_⟩; gi_at_call 35; refine (callsIn_wide.2 (C _)).mono ?_; rintro e w' ⟨rfl, hw2⟩; obtain rfl : wr = w' := hw2.symm)
      refine ⟨rfl, HR.out.mono ?_⟩
      rintro e W3 ⟨hrf, (⟨rfl, hJ3⟩ | ⟨rfl, hJx3⟩)⟩
      · have hbk3 := hrf.boxed hbk1 hTk
        have hbn3 := hrf.boxed hbn1 hTn
        gi_wp2
        go_roundw
        case rel => exact ⟨a + 1, by omega, by go_num, hbk3, hbn3, hJ3⟩
        case measure => simp [intOf]; omega
      · gi_wp2
        refine bodyPost_ret (results_none rfl _ _ _) rfl ?_
        exact ⟨⟨_, rfl⟩, .inr hJx3⟩
    · obtain rfl : a = n := by omega
      clear hY
      gi_wp2
      go_end0
      rw [linesV_length]
      exact ⟨⟨_, rfl⟩, .inl hj⟩
#print axioms Tryd.spans1_seq
end Go.Proofs
