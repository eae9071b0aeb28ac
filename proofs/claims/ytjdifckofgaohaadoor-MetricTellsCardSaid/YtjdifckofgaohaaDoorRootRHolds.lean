/- The document's own answer for layer 5: what it asks of a number (holds). Conditions: numbers of which something is said. -/
import Derived.Test.YtjdifckofgaohaaDoorRootAt
namespace Go.Root
/-- The three things that the document's own answer asks. -/
def asks (way q n m d : Nat) : Prop :=
  if way = 0 then (2 * q - 1) * d * ((2 * q - 1) * d) ≤ 4 * n
  else if way = 1 then q * d * (q * d) ≤ m * m * n
  else m * (q * d * (q * d)) < n
instance (way q n m d : Nat) : Decidable (asks way q n m d) := by unfold asks; infer_instance

theorem le_of_div {c q d : Nat} (hd : 1 ≤ d) (h : q ≤ c / d) : q * d ≤ c := (Nat.le_div_iff_mul_le hd).1 h
theorem lt_of_div {c q d : Nat} (hd : 1 ≤ d) (h : ¬ q ≤ c / d) : c < q * d := by
  have := mt (Nat.le_div_iff_mul_le (x := q) (y := c) hd).2 h; omega
end Go.Root
namespace Go.Proofs
open Go.RowKit Go.Shelf Go.Root
attribute [local go_sem] Oper.semAt_some

theorem le_four (X n : Nat) : X ≤ 4 * n ↔ (X : Int) ≤ 4 * (n : Int) := by omega
theorem div_lt {c d q : Nat} (h : c / d < q) : (c : Int) / (d : Int) < (q : Int) := by rw [← Int.natCast_ediv]; exact Int.ofNat_lt.2 h
theorem div_ge {c d q : Nat} (h : q ≤ c / d) : (q : Int) ≤ (c : Int) / (d : Int) := by rw [← Int.natCast_ediv]; exact Int.ofNat_le.2 h
theorem div_gt {c d q : Nat} (h : q < c / d) : (q : Int) < (c : Int) / (d : Int) := by rw [← Int.natCast_ediv]; exact Int.ofNat_lt.2 h
theorem div_le {c d q : Nat} (h : c / d ≤ q) : (c : Int) / (d : Int) ≤ (q : Int) := by rw [← Int.natCast_ediv]; exact Int.ofNat_le.2 h

set_option maxRecDepth 100000 in
set_option maxHeartbeats 1000000 in
theorem Tryd.holds_great (way q n m d : Nat) (w : World) (hd : 1 ≤ d) (h : 3000000000 / d < q) :
    Calls Tryd.prog 42 #[.int .i64 (way : Int), .int .i64 (q : Int), .int .i64 (n : Int), .int .i64 (m : Int), .int .i64 (d : Int)] w fun e w' => e = .returned (.bool false) ∧ w' = w := by
  have hne : ((d : Int) == 0) = false := beq_eq_false_iff_ne.2 (by omega)
  have h1 : (3000000000 : Int) / (d : Int) < (q : Int) := div_lt h
  have c1 : decide ((3000000000 : Int) / (d : Int) < (q : Int)) = true := decide_eq_true h1
  go_enter Tryd.func42, Tryd.ntmps42
  go_wp2
  go_ret
  exact ⟨rfl, rfl⟩

set_option maxRecDepth 100000 in
set_option maxHeartbeats 1000000 in
theorem Tryd.holds_near (q n m d : Nat) (w : World) (hd : 1 ≤ d) (hd9 : d ≤ 1000000) (h : q ≤ 3000000000 / d) (hq : 1 ≤ q) (hn : n ≤ 80000000000000000) :
    Calls Tryd.prog 42 #[.int .i64 0, .int .i64 (q : Int), .int .i64 (n : Int), .int .i64 (m : Int), .int .i64 (d : Int)] w fun e w' => e = .returned (.bool (decide (asks 0 q n m d))) ∧ w' = w := by
  have hne : ((d : Int) == 0) = false := beq_eq_false_iff_ne.2 (by omega)
  have h1 : ¬ (3000000000 : Int) / (d : Int) < (q : Int) := Int.not_lt.2 (div_ge h)
  have c1 : decide ((3000000000 : Int) / (d : Int) < (q : Int)) = false := decide_eq_false h1
  have hqd := le_of_div hd h
  have hx : (2 * q - 1) * d = 2 * (q * d) - d := by rw [Nat.sub_mul, Nat.mul_assoc, Nat.one_mul]
  by_cases hc : q < 1000000000 / d
  · have h2 : (q : Int) < (1000000000 : Int) / (d : Int) := div_gt hc
    have c2 : decide ((q : Int) < (1000000000 : Int) / (d : Int)) = true := decide_eq_true h2
    have hcd := le_of_div hd (Nat.le_of_lt hc)
    have hq9 : q ≤ 1000000000 := Nat.le_trans (Nat.le_mul_of_pos_right q hd) hcd
    have hxm : (2 * q - 1) * d ≤ 2000000000 := by omega
    have hxx : (2 * q - 1) * d * ((2 * q - 1) * d) ≤ 4000000000000000000 := sq_le hxm
    have w1 : wrap64 ((2 * (q : Int) - 1) * (d : Int)) = (((2 * q - 1) * d : Nat) : Int) := wrap_nat (by rw [show 2 * (q : Int) - 1 = ((2 * q - 1 : Nat) : Int) by omega]; simp) (by omega)
    have w2 : wrap64 ((((2 * q - 1) * d : Nat) : Int) * (((2 * q - 1) * d : Nat) : Int)) = (((2 * q - 1) * d * ((2 * q - 1) * d) : Nat) : Int) := wrap_nat (by simp) (by omega)
    have hA : asks 0 q n m d ↔ (2 * q - 1) * d * ((2 * q - 1) * d) ≤ 4 * n := by simp [asks]
    generalize (2 * q - 1) * d * ((2 * q - 1) * d) = X at w2 hA hxx
    generalize (2 * q - 1) * d = Y at w1 w2 hxm hx
    have hd' : decide (asks 0 q n m d) = decide (((X : Nat) : Int) ≤ 4 * (n : Int)) := by
      rw [decide_eq_decide, hA]; exact le_four X n
    rw [hd']
    clear hd' hA hx hxx
    go_enter Tryd.func42, Tryd.ntmps42
    go_wp2
    go_ret
    exact ⟨rfl, rfl⟩
  · have h2 : ¬ (q : Int) < (1000000000 : Int) / (d : Int) := Int.not_lt.2 (div_le (Nat.not_lt.1 hc))
    have c2 : decide ((q : Int) < (1000000000 : Int) / (d : Int)) = false := decide_eq_false h2
    have hA : ¬ asks 0 q n m d := by
      have h3 : 1000000000 < (q + 1) * d := lt_of_div hd (by omega)
      rw [Nat.succ_mul] at h3
      have h4 : 1000000000 - d * 3 ≤ (2 * q - 1) * d := by omega
      have h5 : 810000000000000000 ≤ (2 * q - 1) * d * ((2 * q - 1) * d) := sq_le (show 900000000 ≤ (2 * q - 1) * d by omega)
      simp only [asks, if_pos]
      omega
    rw [decide_eq_false hA]
    clear hA hx
    go_enter Tryd.func42, Tryd.ntmps42
    go_wp2
    go_ret
    exact ⟨rfl, rfl⟩

set_option maxRecDepth 100000 in
set_option maxHeartbeats 1000000 in
theorem Tryd.holds_down (q n m d : Nat) (w : World) (hd : 1 ≤ d) (h : q ≤ 3000000000 / d) (hn : n ≤ 80000000000000000) (hm9 : m ≤ 10) :
    Calls Tryd.prog 42 #[.int .i64 1, .int .i64 (q : Int), .int .i64 (n : Int), .int .i64 (m : Int), .int .i64 (d : Int)] w fun e w' => e = .returned (.bool (decide (asks 1 q n m d))) ∧ w' = w := by
  have hne : ((d : Int) == 0) = false := beq_eq_false_iff_ne.2 (by omega)
  have h1 : ¬ (3000000000 : Int) / (d : Int) < (q : Int) := Int.not_lt.2 (div_ge h)
  have c1 : decide ((3000000000 : Int) / (d : Int) < (q : Int)) = false := decide_eq_false h1
  have hqd := le_of_div hd h
  have hqq : q * d * (q * d) ≤ 9000000000000000000 := sq_le hqd
  have ht := times_of hn hm9
  have hmm : m * m ≤ 100 := sq_le hm9
  have w1 : wrap64 ((q : Int) * (d : Int)) = ((q * d : Nat) : Int) := wrap_nat (by simp) (by omega)
  have w2 : wrap64 (((q * d : Nat) : Int) * ((q * d : Nat) : Int)) = ((q * d * (q * d) : Nat) : Int) := wrap_nat (by simp) (by omega)
  have w3 : wrap64 ((m : Int) * (m : Int)) = ((m * m : Nat) : Int) := wrap_nat (by simp) (by omega)
  have w4 : wrap64 (((m * m : Nat) : Int) * (n : Int)) = ((m * m * n : Nat) : Int) := wrap_nat (by simp) (by omega)
  have hA : asks 1 q n m d ↔ q * d * (q * d) ≤ m * m * n := by simp [asks]
  generalize q * d * (q * d) = X at w2 hA hqq
  generalize q * d = Y at w1 w2 hqd
  generalize m * m * n = U at w4 hA ht
  generalize m * m = V at w3 w4 hmm
  have hd' : decide (asks 1 q n m d) = decide (X ≤ U) := by
    rw [decide_eq_decide, hA]
  rw [hd']
  clear hd' hA
  go_enter Tryd.func42, Tryd.ntmps42
  go_wp2
  go_ret
  exact ⟨rfl, rfl⟩

set_option maxRecDepth 100000 in
set_option maxHeartbeats 1000000 in
theorem Tryd.holds_ceil (q n m d : Nat) (w : World) (hd : 1 ≤ d) (h : q ≤ 3000000000 / d) (hn : n ≤ 80000000000000000) (hm : 1 ≤ m) (hm9 : m ≤ 10) :
    Calls Tryd.prog 42 #[.int .i64 2, .int .i64 (q : Int), .int .i64 (n : Int), .int .i64 (m : Int), .int .i64 (d : Int)] w fun e w' => e = .returned (.bool (decide (asks 2 q n m d))) ∧ w' = w := by
  have hne : ((d : Int) == 0) = false := beq_eq_false_iff_ne.2 (by omega)
  have h1 : ¬ (3000000000 : Int) / (d : Int) < (q : Int) := Int.not_lt.2 (div_ge h)
  have c1 : decide ((3000000000 : Int) / (d : Int) < (q : Int)) = false := decide_eq_false h1
  have hqd := le_of_div hd h
  by_cases hc : q ≤ 300000000 / d
  · have h2 : (q : Int) ≤ (300000000 : Int) / (d : Int) := div_ge hc
    have c2 : decide ((q : Int) ≤ (300000000 : Int) / (d : Int)) = true := decide_eq_true h2
    have hcd := le_of_div hd hc
    have hqq : q * d * (q * d) ≤ 90000000000000000 := sq_le hcd
    have hmq : m * (q * d * (q * d)) ≤ 900000000000000000 := Nat.mul_le_mul hm9 hqq
    have w1 : wrap64 ((q : Int) * (d : Int)) = ((q * d : Nat) : Int) := wrap_nat (by simp) (by omega)
    have w2 : wrap64 (((q * d : Nat) : Int) * ((q * d : Nat) : Int)) = ((q * d * (q * d) : Nat) : Int) := wrap_nat (by simp) (by omega)
    have w3 : wrap64 ((m : Int) * ((q * d * (q * d) : Nat) : Int)) = ((m * (q * d * (q * d)) : Nat) : Int) := wrap_nat (by simp) (by omega)
    have hA : asks 2 q n m d ↔ m * (q * d * (q * d)) < n := by simp [asks]
    generalize m * (q * d * (q * d)) = U at w3 hA hmq
    generalize q * d * (q * d) = X at w2 w3 hqq
    generalize q * d = Y at w1 w2 hqd hcd
    have hd' : decide (asks 2 q n m d) = decide (U < n) := by
      rw [decide_eq_decide, hA]
    rw [hd']
    clear hd' hA
    go_enter Tryd.func42, Tryd.ntmps42
    go_wp2
    go_ret
    exact ⟨rfl, rfl⟩
  · have h2 : ¬ (q : Int) ≤ (300000000 : Int) / (d : Int) := Int.not_le.2 (div_lt (Nat.not_le.1 hc))
    have c2 : decide ((q : Int) ≤ (300000000 : Int) / (d : Int)) = false := decide_eq_false h2
    have hA : ¬ asks 2 q n m d := by
      have h5 : 90000000000000000 ≤ q * d * (q * d) := sq_le (Nat.le_of_lt (lt_of_div hd hc))
      have h6 := Nat.le_mul_of_pos_left (q * d * (q * d)) hm
      simp only [asks, show ¬ (2 : Nat) = 0 by omega, show ¬ (2 : Nat) = 1 by omega, if_false]
      omega
    rw [decide_eq_false hA]
    clear hA
    go_enter Tryd.func42, Tryd.ntmps42
    go_wp2
    go_ret
    exact ⟨rfl, rfl⟩
#print axioms Tryd.holds_great
#print axioms Tryd.holds_near
#print axioms Tryd.holds_down
#print axioms Tryd.holds_ceil
end Go.Proofs
