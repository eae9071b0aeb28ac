/- The law RootSquares of layer 5, as a contract: it answers true at every input. -/
import Derived.Test.YtihodgjkiocjmaaAt
namespace Go.Root
theorem sq_most {a t : Nat} (ha : a ≤ 999999) (ht : t ≤ 256) : a * t ≤ 255999744 := Nat.mul_le_mul ha ht
end Go.Root
namespace Go.Proofs
open Go.RowKit Go.Shelf Go.Root
attribute [local go_sem] Oper.semAt_some

set_option maxRecDepth 100000 in
set_option maxHeartbeats 1000000 in
theorem Try.RootSquares_calls (q d : Int) (w : World) (hq0 : 0 ≤ q) (hq9 : q ≤ 4294967295) (hd0 : 0 ≤ d) (hd9 : d ≤ 255) : Calls Try.prog 4 #[.int .u32 q, .int .u8 d] w fun e w' => e = .returned (.bool true) ∧ Below w.heap.size w w' := by
  obtain ⟨d, rfl⟩ := nat_of hd0
  obtain ⟨a, ha⟩ : ∃ a : Nat, q % 1000000 = (a : Int) := nat_of (by omega)
  have ha9 : a ≤ 999999 := by omega
  obtain ⟨t, ht⟩ : ∃ t : Nat, 1 + (d : Int) = (t : Int) := nat_of (by omega)
  have ht1 : 1 ≤ t := by omega
  have ht9 : t ≤ 256 := by omega
  have hx := sq_most ha9 ht9
  have haa : a * a ≤ 999998000001 := sq_le ha9
  have hxx : a * t * (a * t) ≤ 65535868928065536 := sq_le hx
  have g1 := rt_sq (a := a) (by omega)
  have g2 := near_sq (a := a) (t := t) (by omega) ht1
  have g3 := down_sq (a := a) (m := 1) (t := t) (by omega) ht1
  have g4 := ceil_sq (a := a) (t := t) (by omega) ht1
  have g5 := down_sq (a := a) (m := 10) (t := t) (by omega) ht1
  have g6 := rt_sq (a := a * t) (by omega)
  rw [Nat.one_mul] at g3
  have hatt : a * a * t * t = a * t * (a * t) := by rw [Nat.mul_mul_mul_comm, ← Nat.mul_assoc]
  have hat2 : a * a * t ≤ 255999488000256 := Nat.mul_le_mul haa ht9
  have w1 : wrap64 ((a : Int) * (a : Int)) = ((a * a : Nat) : Int) := wrap_nat (by simp) (by omega)
  have w2 : wrap64 (((a * a : Nat) : Int) * (t : Int)) = ((a * a * t : Nat) : Int) := wrap_nat (by simp) (by omega)
  have w3 : wrap64 (((a * a * t : Nat) : Int) * (t : Int)) = ((a * t * (a * t) : Nat) : Int) := wrap_nat (by rw [← hatt]; simp) (by omega)
  have w4 : wrap64 ((a : Int) * (t : Int)) = ((a * t : Nat) : Int) := wrap_nat (by simp) (by omega)
  clear hatt
  obtain ⟨x1, e1⟩ : ∃ x, a * a = x := ⟨_, rfl⟩
  rw [e1] at g1 haa hat2 w1 w2 w3
  obtain ⟨x2, e2⟩ : ∃ x, x1 * t = x := ⟨_, rfl⟩
  rw [e2] at hat2 w2 w3
  obtain ⟨x3, e3⟩ : ∃ x, a * t = x := ⟨_, rfl⟩
  rw [e3] at hx hxx g2 g3 g4 g5 g6 w3 w4
  obtain ⟨n, e4⟩ : ∃ x, x3 * x3 = x := ⟨_, rfl⟩
  rw [e4] at hxx g2 g3 g4 g5 g6 w3
  clear e1 e2 e3 e4
  have F1 := fun (w : World) => Try.Floor_calls x1 w (by omega)
  have F2 := fun (w : World) => Try.Near_calls n t w (by omega) (by omega) (by omega)
  have F3 := fun (w : World) => Try.Down_calls n 1 t w (by omega) (by omega) (by omega) (by omega)
  have F4 := fun (w : World) => Try.Ceil_calls n 1 t w (by omega) (by omega) (by omega) (by omega) (by omega)
  have F5 := fun (w : World) => Try.Down_calls n 10 t w (by omega) (by omega) (by omega) (by omega)
  have F6 := fun (w : World) => Try.Floor_calls n w (by omega)
  rw [g1] at F1
  rw [g2] at F2
  rw [g3] at F3
  rw [g4] at F4
  rw [g5] at F5
  rw [g6] at F6
  simp only [Int.cast_ofNat_Int] at F3 F4 F5
  clear g1 g2 g3 g4 g5 g6
  have c1 : decide (80000000000000000 < (n : Int)) = false := decide_eq_false (by omega)
  have c2 : (((10 * a : Nat) : Int) == 10 * (a : Int)) = true := by simp
  go_enter Try.func4, Try.ntmps4
  go_wp2_with (go_at_call 10; (with_reducible refine (Try.shown_calls _).mono ?_); rintro e w0 ⟨rfl, hb⟩)
  go_wp2_with (go_at_call 11; (with_reducible refine (F1 _).mono ?_); rintro e v1 ⟨rfl, h1⟩; clear F1; replace hb := below_next hb h1 (Nat.le_refl _); clear h1)
  go_wp2_with (go_at_call 13; (with_reducible refine (F2 _).mono ?_); rintro e v2 ⟨rfl, h1⟩; clear F2; replace hb := below_next hb h1 (Nat.le_refl _); clear h1)
  go_wp2_with (go_at_call 15; (with_reducible refine (F3 _).mono ?_); rintro e v3 ⟨rfl, h1⟩; clear F3; replace hb := below_next hb h1 (Nat.le_refl _); clear h1)
  go_wp2_with (go_at_call 17; (with_reducible refine (F4 _).mono ?_); rintro e v4 ⟨rfl, h1⟩; clear F4; replace hb := below_next hb h1 (Nat.le_refl _); clear h1)
  go_wp2_with (go_at_call 15; (with_reducible refine (F5 _).mono ?_); rintro e v5 ⟨rfl, h1⟩; clear F5; replace hb := below_next hb h1 (Nat.le_refl _); clear h1)
  go_wp2_with (go_at_call 11; (with_reducible refine (F6 _).mono ?_); rintro e v6 ⟨rfl, h1⟩; clear F6; replace hb := below_next hb h1 (Nat.le_refl _); clear h1)
  go_ret
  exact ⟨rfl, hb⟩
#print axioms Try.RootSquares_calls
end Go.Proofs
