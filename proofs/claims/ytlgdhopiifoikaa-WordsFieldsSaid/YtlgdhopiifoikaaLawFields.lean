/- The law WordsFields of this program, as a contract. No conditions. -/
import Derived.Test.YtlgdhopiifoikaaShown
import Derived.Test.YtlgdhopiifoikaaRFields
namespace Go.Proofs
open Go.RowKit Go.Shelf Go.Wds

theorem bl {a b c : World} (h : Below a.heap.size a b) (k : Below b.heap.size b c) : Below a.heap.size a c := h.trans (k.mono h.size)

set_option maxRecDepth 100000 in
set_option maxHeartbeats 1000000 in
theorem Try.WordsFields_calls (s : ByteArray) (a b : Int) (w : World) (hs : s.size ≤ maxLen) :
    Calls Try.prog 3 #[.string s, .int .i64 a, .int .i64 b] w fun e w' => e = .returned (.bool true) ∧ Below w.heap.size w w' := by
  unfold maxLen at hs
  by_cases hbig : 1000 < s.size
  · have hd : decide ((1000 : Int) < (s.size : Int)) = true := decide_eq_true (by omega)
    clear hbig
    go_enter Try.func3, Try.ntmps3
    go_wp2_with (go_at_call 10; refine (Try.shown_calls _).mono ?_; rintro e w1 ⟨rfl, hb1⟩)
    go_ret
    exact ⟨rfl, hb1⟩
  · have hd : decide ((1000 : Int) < (s.size : Int)) = false := decide_eq_false (by omega)
    have hs2 : s.size ≤ 2000000 := by omega
    have C1 := Lib.hid fun W => Try.Fields_calls s a b W hs2
    have C2 := Lib.hid fun W => Try.rFields_calls s a b W hs2
    have C3 := Lib.hid fun W => Try.Text_calls s a b W
    have C4 := Lib.hid fun W => Try.rText_calls s a b W
    have hlen := fieldsI_len s a b
    obtain ⟨ps, hps⟩ : ∃ ps, fieldsI s a b = ps := ⟨_, rfl⟩
    rw [hps] at C1 C2 hlen
    obtain ⟨X, hX⟩ : ∃ X, textI s a b = X := ⟨_, rfl⟩
    rw [hX] at C3 C4
    have HLN := Lib.hid (show ps.length ≤ 2000000 by omega)
    clear hbig hs hps hX hlen
    go_enter Try.func3, Try.ntmps3
    go_wp2_with (go_at_call 10; refine (Try.shown_calls _).mono ?_; rintro e w1 ⟨rfl, hb1⟩)
    refine (C1.out _).mono ?_
    rintro e w2 ⟨v1, rfl, ho1, hb2⟩
    have H1 := Lib.hid ho1
    clear ho1
    go_wp2_with (fail)
    refine (Try.its_calls v1 ps _ HLN.out H1.out).mono ?_
    rintro e w3 ⟨v2, rfl, ho2, hb3⟩
    have H2 := Lib.hid (hasWords_of_owns ho2)
    clear ho2
    go_wp2_with (fail)
    refine (C2.out _).mono ?_
    rintro e w4 ⟨v3, rfl, ho3, hb4⟩
    have H3 := Lib.hid ho3
    clear ho3
    go_wp2_with (fail)
    refine (Try.Same_calls v2 v3 ps _ HLN.out (H2.out.later hb4) H3.out).mono ?_
    rintro e w5 ⟨rfl, hb5⟩
    have B5 := bl hb1 (bl hb2 (bl hb3 (bl hb4 hb5)))
    clear hb1 hb2 hb3 hb4 hb5 H1 H2 H3
    go_wp2_with (fail)
    refine (C3.out _).mono ?_
    rintro e w6 ⟨rfl, hb6⟩
    go_wp2_with (fail)
    refine (C4.out _).mono ?_
    rintro e w7 ⟨rfl, hb7⟩
    go_wp2
    go_ret
    exact ⟨rfl, bl B5 (bl hb6 hb7)⟩
#print axioms Try.WordsFields_calls
end Go.Proofs
