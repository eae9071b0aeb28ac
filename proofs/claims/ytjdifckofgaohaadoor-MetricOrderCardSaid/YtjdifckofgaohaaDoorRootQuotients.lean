/- root.Near, root.Down and root.Ceil of this program: roots of quotients, rounded. Conditions: n of 0 to 8 * 10^16, d of 1 to 10^6, m and k of 1 to 10. -/
import Derived.Test.YtjdifckofgaohaaDoorRootFloor
namespace Go.Proofs
open Go.RowKit Go.Shelf Go.Root
attribute [local go_sem] Oper.semAt_some

/-- The same, at a number however it is told. -/
theorem Tryd.Floor_at (x : Int) (n : Nat) (w : World) (hx : x = (n : Int)) (hn : n ≤ 9223372036854775807) :
    Calls Tryd.prog 39 #[.int .i64 x] w fun e w' => e = .returned (.int .i64 (rt n : Int)) ∧ Below w.heap.size w w' := by
  subst hx; exact Tryd.Floor_calls n w hn

theorem most_of {n : Nat} (h : n ≤ 80000000000000000) : 4 * n ≤ 9223372036854775807 := by omega
theorem times_of {n m : Nat} (h : n ≤ 80000000000000000) (hm : m ≤ 10) : m * m * n ≤ 8000000000000000000 := by
  have h1 : m * m ≤ 100 := sq_le hm
  have := Nat.mul_le_mul h1 h
  omega

/-- A number that has room stays as it is. -/
theorem wrap_nat {x : Int} {n : Nat} (h : x = (n : Int)) (hn : n ≤ 9223372036854775807) : wrap64 x = (n : Int) := by
  subst h; unfold wrap64; omega

set_option maxRecDepth 100000 in
set_option maxHeartbeats 1000000 in
theorem Tryd.Near_calls (n d : Nat) (w : World) (hn : n ≤ 80000000000000000) (hd : 1 ≤ d) (hd9 : d ≤ 1000000) :
    Calls Tryd.prog 29 #[.int .i64 (n : Int), .int .i64 (d : Int)] w fun e w' => e = .returned (.int .i64 (near n d : Int)) ∧ Below w.heap.size w w' := by
  have hlt : decide ((d : Int) < 1) = false := decide_eq_false (by omega)
  have hne : ((d : Int) == 0) = false := beq_eq_false_iff_ne.2 (by omega)
  have hr := rt_most (most_of hn)
  have hF := fun (x : Int) (w : World) hx => Tryd.Floor_at x (4 * n) w hx (most_of hn)
  have hR : near n d = (rt (4 * n) / d + 1) / 2 := rfl
  obtain ⟨r, hrr⟩ : ∃ r, rt (4 * n) = r := ⟨_, rfl⟩
  rw [hrr] at hr hR
  simp only [hrr] at hF
  clear hrr
  have hq : r / d ≤ r := Nat.div_le_self _ _
  have hw : wrap64 ((r : Int) / (d : Int)) = ((r / d : Nat) : Int) := wrap_nat (by simp) (by omega)
  obtain ⟨q, hqq⟩ : ∃ q, q = r / d := ⟨_, rfl⟩
  rw [← hqq] at hq hR hw
  clear hqq
  go_enter Tryd.func29, Tryd.ntmps29
  go_wp2_with (go_at_call 39; refine (hF _ _ (by omega)).mono ?_; rintro e w' ⟨rfl, hb⟩)
  go_ret
  exact ⟨by rw [hR]; go_num, hb⟩

set_option maxRecDepth 100000 in
set_option maxHeartbeats 1000000 in
theorem Tryd.Down_calls (n m d : Nat) (w : World) (hn : n ≤ 80000000000000000) (hm9 : m ≤ 10) (hd : 1 ≤ d) (hd9 : d ≤ 1000000) :
    Calls Tryd.prog 37 #[.int .i64 (n : Int), .int .i64 (m : Int), .int .i64 (d : Int)] w fun e w' => e = .returned (.int .i64 (down n m d : Int)) ∧ Below w.heap.size w w' := by
  have hlt : decide ((d : Int) < 1) = false := decide_eq_false (by omega)
  have hne : ((d : Int) == 0) = false := beq_eq_false_iff_ne.2 (by omega)
  have ht := times_of hn hm9
  have hm2 : m * m ≤ 100 := sq_le hm9
  have hr := rt_most (n := m * m * n) (by omega)
  have hF := fun (x : Int) (w : World) hx => Tryd.Floor_at x (m * m * n) w hx (by omega)
  have hR : down n m d = rt (m * m * n) / d := rfl
  have hc1 : wrap64 ((m : Int) * (m : Int)) = ((m * m : Nat) : Int) := wrap_nat (by simp) (by omega)
  have hc2 : wrap64 (((m * m : Nat) : Int) * (n : Int)) = ((m * m * n : Nat) : Int) := wrap_nat (by simp) (by omega)
  obtain ⟨r, hrr⟩ : ∃ r, rt (m * m * n) = r := ⟨_, rfl⟩
  rw [hrr] at hr hR
  simp only [hrr] at hF
  clear hrr
  obtain ⟨x, hx⟩ : ∃ x, m * m * n = x := ⟨_, rfl⟩
  rw [hx] at hF hc2 ht
  obtain ⟨y, hy⟩ : ∃ y, m * m = y := ⟨_, rfl⟩
  rw [hy] at hc1 hc2 hm2
  clear hx hy
  have hq : r / d ≤ r := Nat.div_le_self _ _
  have hw : wrap64 ((r : Int) / (d : Int)) = ((r / d : Nat) : Int) := wrap_nat (by simp) (by omega)
  obtain ⟨q, hqq⟩ : ∃ q, q = r / d := ⟨_, rfl⟩
  rw [← hqq] at hq hR hw
  clear hqq
  rw [hR]
  go_enter Tryd.func37, Tryd.ntmps37
  go_wp2_with (go_at_call 39; refine (hF _ _ rfl).mono ?_; rintro e w' ⟨rfl, hb⟩)
  go_ret
  exact ⟨by rw [← hw]; rfl, hb⟩

theorem Tryd.up_calls (a b : Nat) (w : World) (ha : a ≤ 1000000000000000000) (hb : 1 ≤ b) (hb9 : b ≤ 1000000) :
    Calls Tryd.prog 40 #[.int .i64 (a : Int), .int .i64 (b : Int)] w fun e w' => e = .returned (.int .i64 (upto a b : Int)) ∧ w' = w := by
  have hne : ((b : Int) == 0) = false := beq_eq_false_iff_ne.2 (by omega)
  have hR : ((upto a b : Nat) : Int) = ((a : Int) + (b : Int) - 1) / (b : Int) := by
    rw [show (a : Int) + (b : Int) - 1 = ((a + b - 1 : Nat) : Int) by omega]
    simp [upto]
  go_enter Tryd.func40, Tryd.ntmps40
  go_wp2
  go_ret
  exact ⟨by rw [hR]; rfl, rfl⟩

theorem Tryd.ceiling_calls (n : Nat) (w : World) (hn : n ≤ 1000000000000000000) :
    Calls Tryd.prog 41 #[.int .i64 (n : Int)] w fun e w' => e = .returned (.int .i64 (ceiling n : Int)) ∧ Below w.heap.size w w' := by
  have hr := rt_most (n := n) (by omega)
  have hs := (rt_is (n := n) (by omega)).1
  have hF := fun (w : World) => Tryd.Floor_calls n w (by omega)
  have hR : ceiling n = if rt n * rt n < n then rt n + 1 else rt n := rfl
  obtain ⟨r, hrr⟩ : ∃ r, rt n = r := ⟨_, rfl⟩
  rw [hrr] at hr hs
  simp only [hrr] at hF hR
  clear hrr
  have hw : wrap64 ((r : Int) * (r : Int)) = ((r * r : Nat) : Int) := wrap_nat (by simp) (by omega)
  obtain ⟨s, hss⟩ : ∃ s, r * r = s := ⟨_, rfl⟩
  rw [hss] at hw hR hs
  clear hss
  rw [hR]
  clear hR
  go_enter Tryd.func41, Tryd.ntmps41
  by_cases hc : s < n
  · have hc' : decide ((s : Int) < (n : Int)) = true := decide_eq_true (by omega)
    rw [if_pos hc]
    go_wp2_with (go_at_call 39; refine (hF _).mono ?_; rintro e w' ⟨rfl, hb⟩)
    go_ret
    exact ⟨by go_num, hb⟩
  · have hc' : decide ((s : Int) < (n : Int)) = false := decide_eq_false (by omega)
    rw [if_neg hc]
    go_wp2_with (go_at_call 39; refine (hF _).mono ?_; rintro e w' ⟨rfl, hb⟩)
    go_ret
    exact ⟨rfl, hb⟩

theorem Tryd.Ceil_calls (n k d : Nat) (w : World) (hn : n ≤ 80000000000000000) (hk : 1 ≤ k) (hk9 : k ≤ 10) (hd : 1 ≤ d) (hd9 : d ≤ 1000000) :
    Calls Tryd.prog 31 #[.int .i64 (n : Int), .int .i64 (k : Int), .int .i64 (d : Int)] w fun e w' => e = .returned (.int .i64 (ceil n k d : Int)) ∧ Below w.heap.size w w' := by
  have hk1 : decide ((k : Int) < 1) = false := decide_eq_false (by omega)
  have hd1 : decide ((d : Int) < 1) = false := decide_eq_false (by omega)
  have h1 := upto_most (a := n) hk hn
  have h2 := ceiling_most (n := upto n k) (by omega)
  have hF1 := fun (w : World) => Tryd.up_calls n k w (by omega) hk (by omega)
  have hF2 := fun (w : World) => Tryd.ceiling_calls (upto n k) w (by omega)
  have hF3 := fun (w : World) => Tryd.up_calls (ceiling (upto n k)) d w (by omega) hd (by omega)
  have hR : ceil n k d = upto (ceiling (upto n k)) d := rfl
  rw [hR]
  clear hR h1 h2
  go_enter Tryd.func31, Tryd.ntmps31
  go_wp2_with (first
    | (go_at_call 40; first
        | ((with_reducible refine (hF1 _).mono ?_); rintro e w1 ⟨rfl, hw1⟩; obtain rfl : w = w1 := hw1.symm)
        | ((with_reducible refine (hF3 _).mono ?_); rintro e w3 ⟨rfl, hw3⟩; obtain rfl : w2 = w3 := hw3.symm))
    | (go_at_call 41; (with_reducible refine (hF2 _).mono ?_); rintro e w2 ⟨rfl, hb⟩))
  go_ret
  exact ⟨rfl, hb⟩
#print axioms Tryd.Near_calls
#print axioms Tryd.Down_calls
#print axioms Tryd.Ceil_calls
end Go.Proofs
