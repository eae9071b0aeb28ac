/- The document's own answer for layout.Pack, at any numbers and any slice of ints. Conditions: none. -/
import Derived.Test.YtipajbcamdcnkaaDoorLayoutPackOne
import Derived.Test.YtipajbcamdcnkaaDoorLayoutPackMid
import Derived.Test.YtipajbcamdcnkaaDoorLayoutPackSix
import Derived.Test.YtipajbcamdcnkaaDoorLayoutPackSeven
import Derived.Test.YtipajbcamdcnkaaDoorLayoutPackP
namespace Go.Proofs
open Go.RowKit Go.Shelf Go.Layout Go.Sort
attribute [local go_sem] Oper.semAt_some

set_option maxRecDepth 100000 in
theorem Tryd.RPack_arg (k n : Int) (ao : Option Addr) (m cap : Nat) (w : World) (h : mayB k n = false) :
    Calls Tryd.prog 22 #[.int .i64 k, .int .i64 n, .slice ao m cap] w fun e w' => e = .returned (.tuple #[.slice none 0 0, .int .i64 1]) ∧ w' = w := by
  have M := fun (w : World) => Tryd.rmay_calls k n w
  rw [h] at M
  go_enter Tryd.func22, Tryd.ntmps22
  go_wp2_with (go_at_call 25; (with_reducible refine (M _).mono ?_); rintro e w2 ⟨rfl, hw2⟩; obtain rfl : w = w2 := hw2.symm)
  go_ret2
  exact ⟨rfl, rfl⟩
set_option maxRecDepth 100000 in
theorem Tryd.RPack_len (k n m cap : Nat) (ao : Option Addr) (w : World) (hk : 1 ≤ k) (hk7 : k ≤ 7) (hn : 1 ≤ n) (hn4 : n ≤ 400) (h : m ≠ n * n) :
    Calls Tryd.prog 22 #[.int .i64 (k : Int), .int .i64 (n : Int), .slice ao m cap] w fun e w' => e = .returned (.tuple #[.slice none 0 0, .int .i64 70]) ∧ w' = w := by
  have M := fun (w : World) => Tryd.rmay_calls k n w
  rw [mayB_nat hk hk7 hn hn4] at M
  have h1 : n * n ≤ 160000 := Nat.mul_le_mul hn4 hn4
  have w1 : wrap64 ((n : Int) * (n : Int)) = ((n * n : Nat) : Int) := by rw [show (n : Int) * (n : Int) = ((n * n : Nat) : Int) by simp]; unfold wrap64; omega
  generalize n * n = N at w1 h h1
  have d : ((m : Int) != (N : Int)) = true := bne_iff_ne.2 (by omega)
  go_enter Tryd.func22, Tryd.ntmps22
  go_wp2_with (go_at_call 25; (with_reducible refine (M _).mono ?_); rintro e w2 ⟨rfl, hw2⟩; obtain rfl : w = w2 := hw2.symm)
  go_ret2
  exact ⟨rfl, rfl⟩
theorem Tryd.RPack_calls (k n : Int) (v : Value) (m : List Int) (w : World) (hv : HasInts w v m) :
    Calls Tryd.prog 22 #[.int .i64 k, .int .i64 n, v] w fun e w' => ∃ v', e = .returned (.tuple #[v', .int .i64 (packE k n m).2]) ∧ HasInts w' v' (packE k n m).1 ∧ Below w.heap.size w w' := by
  cases hm : mayB k n with
  | false =>
    obtain ⟨ao, cap, rfl, hd⟩ := hv.dat
    rw [packE_arg hm]
    exact (Tryd.RPack_arg k n ao _ cap w hm).mono fun e w' ⟨h1, h2⟩ => ⟨_, h1, HasInts.nil _, h2 ▸ Below.refl _ _⟩
  | true =>
    have hb := mayB_true hm
    obtain ⟨k, rfl⟩ := nat_in (show 0 ≤ k by omega)
    obtain ⟨n, rfl⟩ := nat_in (show 0 ≤ n by omega)
    by_cases hl : m.length = n * n
    · have hpos : 0 < n * n := Nat.mul_pos (by omega) (by omega)
      rcases hv with ⟨rfl, ao, cap, rfl⟩ | ⟨b, off, cap, rfl, h1, h2, hd⟩
      · simp at hl; omega
      · have hc : Calls Tryd.prog 22 #[.int .i64 (k : Int), .int .i64 (n : Int), .slice (some ⟨b, off, none⟩) m.length cap] w fun e w' => (fits k n m → ∃ v', e = .returned (.tuple #[v', .int .i64 0]) ∧ HasInts w' v' (pack k n m)) ∧ (¬ fits k n m → e = .returned (.tuple #[.slice none 0 0, .int .i64 70])) ∧ Below w.heap.size w w' := by
          by_cases h1k : k = 1
          · subst h1k; exact Tryd.RPack_one n b off cap m w (by omega) (by omega) hl hd
          by_cases h6 : k = 6
          · exact Tryd.RPack_six k (by omega) (by omega) h1k h6 n b off cap m w (by omega) (by omega) hl hd
          by_cases h7 : k = 7
          · exact Tryd.RPack_seven k (by omega) (by omega) h1k h7 n b off cap m w (by omega) (by omega) hl hd
          · exact Tryd.RPack_mid k (by omega) (by omega) h1k h6 h7 n b off cap m w (by omega) (by omega) hl hd
        refine hc.mono ?_
        rintro e w' ⟨hy, hno, hB⟩
        by_cases hf : fits k n m
        · rw [packE_ok hm hl hf]
          obtain ⟨v', h3, h4⟩ := hy hf
          exact ⟨v', h3, h4, hB⟩
        · rw [packE_no hm hf]
          exact ⟨_, hno hf, HasInts.nil _, hB⟩
    · obtain ⟨ao, cap, rfl, hd⟩ := hv.dat
      rw [packE_len hm hl]
      exact (Tryd.RPack_len k n _ cap ao w (by omega) (by omega) (by omega) (by omega) hl).mono fun e w' ⟨h1, h2⟩ => ⟨_, h1, HasInts.nil _, h2 ▸ Below.refl _ _⟩
#print axioms Tryd.RPack_calls
end Go.Proofs
