/- The law MetricKeys of layer 6, as a contract: it answers true at every input. Conditions: the array of keywords holds what the card lays. -/
import Derived.Test.YtjdifckofgaohaaDoorMetricShown
import Derived.Test.YtjdifckofgaohaaDoorMetricROf
namespace Go.Proofs
open Go.RowKit Go.Shelf Go.Root Go.Metric Go.TextTab
attribute [local go_sem] Oper.semAt_some

theorem ofFrom_is {s : ByteArray} {n : Int} (h : ofR s = (n, true)) : kwS n = s := by
  simp only [ofR, ofFrom] at h
  split at h
  · rename_i he; cases h; exact he
  split at h
  · rename_i he; cases h; exact he
  split at h
  · rename_i he; cases h; exact he
  split at h
  · rename_i he; cases h; exact he
  split at h
  · rename_i he; cases h; exact he
  split at h
  · rename_i he; cases h; exact he
  cases h

set_option maxRecDepth 100000 in
set_option maxHeartbeats 1000000 in
theorem Tryd.MetricKeys_long (k : Int) (s : ByteArray) (w : World) (hT : Words w) (hl : 100 < s.size) :
    Calls Tryd.prog 4 #[.int .i64 k, .string s] w fun e w' => e = .returned (.bool true) ∧ Below w.heap.size w w' := by
  have c1 : decide ((100 : Int) < (s.size : Int)) = true := decide_eq_true (by omega)
  have S := Tryd.shown_calls w hT
  go_enter Tryd.func4, Tryd.ntmps4
  go_wp2_with (go_at_call 11; (with_reducible refine S.mono ?_); rintro e w3 ⟨rfl, hb⟩)
  go_ret
  exact ⟨rfl, hb⟩

set_option maxRecDepth 100000 in
set_option maxHeartbeats 1000000 in
theorem Tryd.MetricKeys_short (k : Int) (s : ByteArray) (w : World) (hT : Words w) (hl : ¬ 100 < s.size) :
    Calls Tryd.prog 4 #[.int .i64 k, .string s] w fun e w' => e = .returned (.bool true) ∧ Below w.heap.size w w' := by
  have c1 : decide ((100 : Int) < (s.size : Int)) = false := decide_eq_false (by omega)
  have S := Tryd.shown_calls w hT
  have HT := Lib.hid hT
  clear hT
  obtain ⟨n, is, hz⟩ : ∃ n is, ofR s = (n, is) := ⟨_, _, rfl⟩
  have RO := fun (w : World) => Tryd.ROf_calls s w
  have RK := fun (w : World) => Tryd.RKnown_calls k w
  have K := fun (w : World) => Tryd.Known_calls k w
  have RW := fun (w : World) => Tryd.RKeyword_calls k w
  go_enter Tryd.func4, Tryd.ntmps4
  go_wp2_with (go_at_call 11; (with_reducible refine S.mono ?_); rintro e w1 ⟨rfl, hb⟩; clear S)
  have T1 := HT.out.below hb
  have O := Tryd.Of_calls s w1 T1
  have W := Tryd.Keyword_calls k w1 T1
  have N := Tryd.Keyword_calls n w1 T1
  have HN : is = true → kwS n = s := fun h => ofFrom_is (h ▸ hz)
  rw [hz] at O RO
  simp only at O RO
  clear HT T1 hz
  generalize knownB k = kb at K RK
  generalize kwS k = kt at W RW
  go_wp2_with (go_at_call 12; (with_reducible refine O.mono ?_); rintro e w2 ⟨rfl, hw2⟩; obtain rfl : w1 = w2 := hw2.symm; clear O)
  go_wp2_with (go_at_call 13; (with_reducible refine (RO _).mono ?_); rintro e w3 ⟨rfl, hw3⟩; obtain rfl : w1 = w3 := hw3.symm; clear RO)
  have eb : (kb == kb) = true := by cases kb <;> rfl
  have et : (kt.toList == kt.toList) = true := beq_self_eq_true _
  have es : (s.toList == s.toList) = true := beq_self_eq_true _
  cases is with
  | false =>
    clear HN N
    go_wp2_with (first
      | (go_at_call 14; (with_reducible refine (K _).mono ?_); rintro e w4 ⟨rfl, hw4⟩; obtain rfl : w1 = w4 := hw4.symm)
      | (go_at_call 15; (with_reducible refine (RK _).mono ?_); rintro e w5 ⟨rfl, hw5⟩; obtain rfl : w1 = w5 := hw5.symm)
      | (go_at_call 16; (with_reducible refine W.mono ?_); rintro e w6 ⟨rfl, hw6⟩; obtain rfl : w1 = w6 := hw6.symm)
      | (go_at_call 17; (with_reducible refine (RW _).mono ?_); rintro e w7 ⟨rfl, hw7⟩; obtain rfl : w1 = w7 := hw7.symm))
    go_ret
    exact ⟨rfl, hb⟩
  | true =>
    rw [HN rfl] at N
    clear HN
    go_wp2_with (first
      | (go_at_call 14; (with_reducible refine (K _).mono ?_); rintro e w4 ⟨rfl, hw4⟩; obtain rfl : w1 = w4 := hw4.symm)
      | (go_at_call 15; (with_reducible refine (RK _).mono ?_); rintro e w5 ⟨rfl, hw5⟩; obtain rfl : w1 = w5 := hw5.symm)
      | (go_at_call 17; (with_reducible refine (RW _).mono ?_); rintro e w7 ⟨rfl, hw7⟩; obtain rfl : w1 = w7 := hw7.symm)
      | (go_at_call 16; first
        | ((with_reducible refine W.mono ?_); rintro e w6 ⟨rfl, hw6⟩; obtain rfl : w1 = w6 := hw6.symm)
        | ((with_reducible refine N.mono ?_); rintro e w8 ⟨rfl, hw8⟩; obtain rfl : w1 = w8 := hw8.symm)))
    go_ret
    exact ⟨rfl, hb⟩
theorem Tryd.MetricKeys_calls (k : Int) (s : ByteArray) (w : World) (hT : Words w) :
    Calls Tryd.prog 4 #[.int .i64 k, .string s] w fun e w' => e = .returned (.bool true) ∧ Below w.heap.size w w' := by
  by_cases hl : 100 < s.size
  · exact Tryd.MetricKeys_long k s w hT hl
  · exact Tryd.MetricKeys_short k s w hT hl
#print axioms Tryd.MetricKeys_calls
end Go.Proofs
