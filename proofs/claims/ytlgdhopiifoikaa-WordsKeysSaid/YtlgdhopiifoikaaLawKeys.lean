/- The law WordsKeys of this program, as a contract. No conditions. -/
import Derived.Test.YtlgdhopiifoikaaShown
import Derived.Test.YtlgdhopiifoikaaRKeyBoth
namespace Go.Proofs
open Go.RowKit Go.Shelf Go.Wds

theorem bl3 {a b c : World} (h : Below a.heap.size a b) (k : Below b.heap.size b c) : Below a.heap.size a c := h.trans (k.mono h.size)

set_option maxRecDepth 100000 in
set_option maxHeartbeats 1000000 in
theorem Try.WordsKeys_calls (s : ByteArray) (a b : Int) (w : World) (hs : s.size ≤ maxLen) :
    Calls Try.prog 4 #[.string s, .int .i64 a, .int .i64 b] w fun e w' => e = .returned (.bool true) ∧ Below w.heap.size w w' := by
  unfold maxLen at hs
  by_cases hbig : 1000 < s.size
  · have hd : decide ((1000 : Int) < (s.size : Int)) = true := decide_eq_true (by omega)
    clear hbig
    go_enter Try.func4, Try.ntmps4
    go_wp2_with (go_at_call 10; refine (Try.shown_calls _).mono ?_; rintro e w1 ⟨rfl, hb1⟩)
    go_ret
    exact ⟨rfl, hb1⟩
  · have hd : decide ((1000 : Int) < (s.size : Int)) = false := decide_eq_false (by omega)
    obtain ⟨k, i, j, t, hk⟩ := key_is s a b
    have C1 : Hid (∀ W, Calls Try.prog 17 #[.string s, .int .i64 a, .int .i64 b] W fun e w' => e = .returned (.tuple #[.string k, .agg #[.int .i64 (i : Int), .int .i64 (j : Int)], .bool t]) ∧ Below W.heap.size W w') := fun W => Try.Key_calls s a b k i j t W (by omega) hk
    have C2 : Hid (∀ W, Calls Try.prog 18 #[.string s, .int .i64 a, .int .i64 b] W fun e w' => e = .returned (.tuple #[.string k, .agg #[.int .i64 (i : Int), .int .i64 (j : Int)], .bool t]) ∧ Below W.heap.size W w') := fun W => Try.rKey_calls s a b k i j t W (by omega) hk
    clear hbig hs hk
    go_enter Try.func4, Try.ntmps4
    go_wp2_with (go_at_call 10; refine (Try.shown_calls _).mono ?_; rintro e w1 ⟨rfl, hb1⟩)
    refine (C1.out _).mono ?_
    rintro e w2 ⟨rfl, hb2⟩
    have B2 := bl3 hb1 hb2
    clear hb1 hb2
    go_wp2_with (fail)
    have hA := Two.new w2 (.int .i64 (i : Int)) (.int .i64 (j : Int)) 31
    have hz : w2.heap.size < (w2.alloc (.cells #[.int .i64 (i : Int), .int .i64 (j : Int)] 31)).heap.size := by simp
    have B3 : Below w.heap.size w (w2.alloc (.cells #[.int .i64 (i : Int), .int .i64 (j : Int)] 31)) := B2.alloc B2.size _
    refine (C2.out _).mono ?_
    rintro e w3 ⟨rfl, hb3⟩
    have B4 := bl3 B3 hb3
    obtain ⟨x0, x1, f0, f1⟩ := hA.later hb3 hz
    have hz3 : w2.heap.size < w3.heap.size := Nat.lt_of_lt_of_le hz hb3.size
    clear hA hb3 B2 B3 hz
    go_wp2
    go_ret
    exact ⟨rfl, B4.alloc B4.size _⟩
#print axioms Try.WordsKeys_calls
end Go.Proofs
