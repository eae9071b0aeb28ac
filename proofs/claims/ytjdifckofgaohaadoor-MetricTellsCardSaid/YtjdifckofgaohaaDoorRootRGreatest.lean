/- The document's own answer for layer 5: the greatest number of which something holds, found bit by bit. Conditions: of all lesser ones it holds, too. -/
import Derived.Test.YtjdifckofgaohaaDoorRootRHolds
namespace Go.Proofs
open Go.RowKit Go.Shelf Go.Root
attribute [local go_sem] Oper.semAt_some

set_option maxRecDepth 100000 in
set_option maxHeartbeats 1000000 in
theorem Tryd.greatest_calls (way n m d v : Nat) (w : World) (hv : v ≤ 4294967295)
    (H : ∀ (q : Nat) (w : World), 1 ≤ q → q ≤ 4294967295 → Calls Tryd.prog 42 #[.int .i64 (way : Int), .int .i64 (q : Int), .int .i64 (n : Int), .int .i64 (m : Int), .int .i64 (d : Int)] w fun e w' => e = .returned (.bool (decide (q ≤ v))) ∧ w' = w) :
    Calls Tryd.prog 38 #[.int .i64 (way : Int), .int .i64 (n : Int), .int .i64 (m : Int), .int .i64 (d : Int)] w fun e w' => e = .returned (.int .i64 (v : Int)) ∧ w' = w := by
  have HA := fun (x : Int) (q : Nat) (w : World) (hx : x = (q : Int)) (h1 : 1 ≤ q) (h2 : q ≤ 4294967295) => (by subst hx; exact H q w h1 h2 : Calls Tryd.prog 42 #[.int .i64 (way : Int), .int .i64 x, .int .i64 (n : Int), .int .i64 (m : Int), .int .i64 (d : Int)] w fun e w' => e = .returned (.bool (decide (q ≤ v))) ∧ w' = w)
  clear H
  go_enter Tryd.func38, Tryd.ntmps38
  go_wp2
  go_loop [9, 10] (fun x y => ∃ q j : Nat, x = .int .i64 (q : Int) ∧ y = .int .i64 ((2 ^ j / 2 : Nat) : Int) ∧ j ≤ 32 ∧ q ≤ v ∧ v < q + 2 ^ j ∧ q + 2 ^ j ≤ 4294967296) (fun _ y => (intOf y).toNat)
  case atStart =>
    exact ⟨0, 32, rfl, rfl, by omega, by omega, by omega, by omega⟩
  case round =>
    obtain ⟨q, j, rfl, rfl, hj, hq, hqv, hq9⟩ := hrel
    cases j with
    | zero =>
      have hqv' : q = v := by omega
      subst hqv'
      have c1 : decide ((0 : Int) < ((2 ^ 0 / 2 : Nat) : Int)) = false := by decide
      go_wp2
      go_ret
      exact ⟨rfl, rfl⟩
    | succ i =>
      obtain ⟨p, hp⟩ : ∃ p, p = 2 ^ i := ⟨_, rfl⟩
      have hp1 : 1 ≤ p := by rw [hp]; exact Nat.two_pow_pos i
      have hp2 : 2 ^ (i + 1) = 2 * p := by rw [Nat.pow_succ, hp, Nat.mul_comm]
      rw [hp2] at hqv hq9 ⊢
      rw [show 2 * p / 2 = p by omega]
      have Hp := Lib.hid hp
      clear hp hp2
      have c1 : decide ((0 : Int) < (p : Int)) = true := decide_eq_true (by omega)
      by_cases hc : q + p ≤ v
      · have c2 : decide (q + p ≤ v) = true := decide_eq_true hc
        have HB := fun (x : Int) (w : World) (hx : x = ((q + p : Nat) : Int)) => HA x (q + p) w hx (by omega) (by omega)
        simp only [c2] at HB
        clear HA c2
        go_wp2_with (go_at_call 42; (with_reducible refine (HB _ _ (by omega)).mono ?_); rintro e w1 ⟨rfl, hw1⟩; obtain rfl : w = w1 := hw1.symm)
        go_round
        case rel => exact ⟨q + p, i, by go_num, by rw [← Hp.out]; go_num, by omega, by omega, by rw [← Hp.out]; omega, by rw [← Hp.out]; omega⟩
        case measure => simp [intOf]; omega
      · have c2 : decide (q + p ≤ v) = false := decide_eq_false hc
        have HB := fun (x : Int) (w : World) (hx : x = ((q + p : Nat) : Int)) => HA x (q + p) w hx (by omega) (by omega)
        simp only [c2] at HB
        clear HA c2
        go_wp2_with (go_at_call 42; (with_reducible refine (HB _ _ (by omega)).mono ?_); rintro e w1 ⟨rfl, hw1⟩; obtain rfl : w = w1 := hw1.symm)
        go_round
        case rel => exact ⟨q, i, by go_num, by rw [← Hp.out]; go_num, by omega, by omega, by rw [← Hp.out]; omega, by rw [← Hp.out]; omega⟩
        case measure => simp [intOf]; omega
#print axioms Tryd.greatest_calls
end Go.Proofs
