/- The document's own answers for layer 7: row, column, at, Index. Conditions: where a layout is asked of, that it is one, of 1 to 400 rows. -/
import Derived.Test.YtipajbcamdcnkaaDoorLayoutRef
namespace Go.Proofs
open Go.RowKit Go.Shelf Go.Layout
attribute [local go_sem] Oper.semAt_some

set_option maxRecDepth 100000 in
set_option maxHeartbeats 1000000 in
theorem Tryd.rrow_calls (k n r : Nat) (w : World) (hk : 1 ≤ k) (hk7 : k ≤ 7) (h6 : k ≠ 6) (h7 : k ≠ 7) (hn4 : n ≤ 400) :
    Calls Tryd.prog 37 #[.int .i64 (k : Int), .int .i64 (n : Int), .int .i64 (r : Int)] w fun e w' => e = .returned (.int .i64 (rowUp k r n : Int)) ∧ w' = w := by
  have T := fun (c : Nat) (w : World) => Tryd.rtells_calls k r c w hk hk7
  have R := fun (c : Nat) => told_row (a := r) (b := c) h6 h7
  have N := fun (c : Nat) => rowUp_le k r c
  go_enter Tryd.func37, Tryd.ntmps37
  go_wp2
  go_loop [7, 8] (fun s i => ∃ c : Nat, c ≤ n ∧ i = .int .i64 (c : Int) ∧ s = .int .i64 (rowUp k r c : Int)) (fun _ i => n - (intOf i).toNat)
  case atStart => exact ⟨0, Nat.zero_le _, rfl, rfl⟩
  case round =>
    obtain ⟨c, hc, rfl, rfl⟩ := hrel
    have Tc := fun (w : World) => T c w
    have Rc := R c
    have Nc := N c
    have hS : rowUp k r (c + 1) = rowUp k r c + if told k r c = true then 1 else 0 := rfl
    rw [Rc] at hS
    clear T R N Rc
    obtain ⟨u, hu⟩ : ∃ u, rowUp k r c = u := ⟨_, rfl⟩
    rw [hu] at Nc hS ⊢
    by_cases hlt : c < n
    · cases ht : tells k r c with
      | true =>
        rw [ht] at Tc hS
        have HS := Lib.hid hS
        clear ht hS hu
        go_wp2_with (go_at_call 28; (with_reducible refine (Tc _).mono ?_); rintro e w1 ⟨rfl, hw1⟩; obtain rfl : w = w1 := hw1.symm)
        go_round
        case rel => exact ⟨c + 1, by omega, by go_num, by rw [HS.out]; go_num⟩
        case measure => simp [intOf]; omega
      | false =>
        rw [ht] at Tc hS
        have HS := Lib.hid hS
        clear ht hS hu
        go_wp2_with (go_at_call 28; (with_reducible refine (Tc _).mono ?_); rintro e w1 ⟨rfl, hw1⟩; obtain rfl : w = w1 := hw1.symm)
        go_round
        case rel => exact ⟨c + 1, by omega, by go_num, by rw [HS.out]; simp⟩
        case measure => simp [intOf]; omega
    · obtain rfl : c = n := by omega
      subst hu
      go_wp2
      go_ret
      exact ⟨rfl, rfl⟩

set_option maxRecDepth 100000 in
set_option maxHeartbeats 1000000 in
theorem Tryd.rcolumn_calls (k n r : Nat) (w : World) (hk : 1 ≤ k) (hk7 : k ≤ 7) (h6 : k = 6 ∨ k = 7) (hn4 : n ≤ 400) :
    Calls Tryd.prog 36 #[.int .i64 (k : Int), .int .i64 (n : Int), .int .i64 (r : Int)] w fun e w' => e = .returned (.int .i64 (rowUp k r n : Int)) ∧ w' = w := by
  have T := fun (c : Nat) (w : World) => Tryd.rtells_calls k c r w hk hk7
  have R := fun (c : Nat) => told_col (a := r) (b := c) h6
  have N := fun (c : Nat) => rowUp_le k r c
  go_enter Tryd.func36, Tryd.ntmps36
  go_wp2
  go_loop [7, 8] (fun s i => ∃ c : Nat, c ≤ n ∧ i = .int .i64 (c : Int) ∧ s = .int .i64 (rowUp k r c : Int)) (fun _ i => n - (intOf i).toNat)
  case atStart => exact ⟨0, Nat.zero_le _, rfl, rfl⟩
  case round =>
    obtain ⟨c, hc, rfl, rfl⟩ := hrel
    have Tc := fun (w : World) => T c w
    have Rc := R c
    have Nc := N c
    have hS : rowUp k r (c + 1) = rowUp k r c + if told k r c = true then 1 else 0 := rfl
    rw [Rc] at hS
    clear T R N Rc
    obtain ⟨u, hu⟩ : ∃ u, rowUp k r c = u := ⟨_, rfl⟩
    rw [hu] at Nc hS ⊢
    by_cases hlt : c < n
    · cases ht : tells k c r with
      | true =>
        rw [ht] at Tc hS
        have HS := Lib.hid hS
        clear ht hS hu
        go_wp2_with (go_at_call 28; (with_reducible refine (Tc _).mono ?_); rintro e w1 ⟨rfl, hw1⟩; obtain rfl : w = w1 := hw1.symm)
        go_round
        case rel => exact ⟨c + 1, by omega, by go_num, by rw [HS.out]; go_num⟩
        case measure => simp [intOf]; omega
      | false =>
        rw [ht] at Tc hS
        have HS := Lib.hid hS
        clear ht hS hu
        go_wp2_with (go_at_call 28; (with_reducible refine (Tc _).mono ?_); rintro e w1 ⟨rfl, hw1⟩; obtain rfl : w = w1 := hw1.symm)
        go_round
        case rel => exact ⟨c + 1, by omega, by go_num, by rw [HS.out]; simp⟩
        case measure => simp [intOf]; omega
    · obtain rfl : c = n := by omega
      subst hu
      go_wp2
      go_ret
      exact ⟨rfl, rfl⟩

set_option maxRecDepth 100000 in
set_option maxHeartbeats 1000000 in
theorem Tryd.rat_row (k n i j : Nat) (w : World) (hk : 1 ≤ k) (hk7 : k ≤ 7) (h6 : k ≠ 6) (h7 : k ≠ 7) (hn4 : n ≤ 400) (hi : i < n) (hj : j < n) :
    Calls Tryd.prog 29 #[.int .i64 (k : Int), .int .i64 (n : Int), .int .i64 (i : Int), .int .i64 (j : Int)] w fun e w' => e = .returned (.int .i64 (rank k n i j : Int)) ∧ w' = w := by
  rw [rank_row h6 h7 hi hj]
  have T := fun (c : Nat) (w : World) => Tryd.rtells_calls k i c w hk hk7
  have R := fun (c : Nat) => told_row (a := i) (b := c) h6 h7
  have V := fun (r : Nat) (w : World) => Tryd.rrow_calls k n r w hk hk7 h6 h7 hn4
  have c6 : ((k : Int) == 6) = false := beq_eq_false_iff_ne.2 (by omega)
  have c7 : ((k : Int) == 7) = false := beq_eq_false_iff_ne.2 (by omega)
  have hm : ∀ a, a ≤ i → rowsUp k n a ≤ 160000 := fun a ha => Nat.le_trans (rowsUp_le k n a) (Nat.mul_le_mul (by omega) hn4 : a * n ≤ 400 * 400)
  go_enter Tryd.func29, Tryd.ntmps29
  go_wp2
  go_loop [9, 12] (fun s x => ∃ a : Nat, a ≤ i ∧ x = .int .i64 (a : Int) ∧ s = .int .i64 (rowsUp k n a : Int)) (fun _ x => i - (intOf x).toNat)
  case atStart => exact ⟨0, Nat.zero_le _, rfl, rfl⟩
  case round =>
    obtain ⟨a, ha, rfl, rfl⟩ := hrel
    have m1 := hm a ha
    obtain ⟨u, hu⟩ : ∃ u, rowsUp k n a = u := ⟨_, rfl⟩
    rw [hu] at m1 ⊢
    by_cases hlt : a < i
    · have Va := fun (w : World) => V a w
      have hS : rowsUp k n (a + 1) = rowsUp k n a + rowUp k a n := rfl
      have m2 := rowUp_le k a n
      obtain ⟨v, hv⟩ : ∃ v, rowUp k a n = v := ⟨_, rfl⟩
      rw [hv] at Va m2 hS
      rw [hu] at hS
      have HS := Lib.hid hS
      clear hS hu hv T R V hm
      go_wp2_with (go_at_call 37; (with_reducible refine (Va _).mono ?_); rintro e w1 ⟨rfl, hw1⟩; obtain rfl : w = w1 := hw1.symm)
      go_round
      case rel => exact ⟨a + 1, by omega, by go_num, by rw [HS.out]; go_num⟩
      case measure => simp [intOf]; omega
    · obtain rfl : a = i := by omega
      have Hu := Lib.hid hu
      clear hu V hm
      go_wp2
      go_loop [9, 13] (fun s x => ∃ c : Nat, c ≤ j ∧ x = .int .i64 (c : Int) ∧ s = .int .i64 ((u + rowUp k a c : Nat) : Int)) (fun _ x => j - (intOf x).toNat)
      case atStart => exact ⟨0, Nat.zero_le _, rfl, by simp [rowUp]⟩
      case round =>
        obtain ⟨c, hc, rfl, rfl⟩ := hrel
        have Tc := fun (w : World) => T c w
        have Rc := R c
        have Nc := rowUp_le k a c
        have hS : rowUp k a (c + 1) = rowUp k a c + if told k a c = true then 1 else 0 := rfl
        rw [Rc] at hS
        clear T R Rc
        obtain ⟨v, hv⟩ : ∃ v, rowUp k a c = v := ⟨_, rfl⟩
        rw [hv] at Nc hS ⊢
        by_cases hlt2 : c < j
        · cases ht : tells k a c with
          | true =>
            rw [ht] at Tc hS
            have HS := Lib.hid hS
            clear ht hS hv
            go_wp2_with (go_at_call 28; (with_reducible refine (Tc _).mono ?_); rintro e w1 ⟨rfl, hw1⟩; obtain rfl : w = w1 := hw1.symm)
            go_round
            case rel => exact ⟨c + 1, by omega, by go_num, by rw [HS.out]; go_num⟩
            case measure => simp [intOf]; omega
          | false =>
            rw [ht] at Tc hS
            have HS := Lib.hid hS
            clear ht hS hv
            go_wp2_with (go_at_call 28; (with_reducible refine (Tc _).mono ?_); rintro e w1 ⟨rfl, hw1⟩; obtain rfl : w = w1 := hw1.symm)
            go_round
            case rel => exact ⟨c + 1, by omega, by go_num, by rw [HS.out]; simp⟩
            case measure => simp [intOf]; omega
        · obtain rfl : c = j := by omega
          have Hv := Lib.hid hv
          clear hv
          go_wp2
          go_ret
          exact ⟨lret_num (by rw [Hu.out, Hv.out]), rfl⟩
set_option maxRecDepth 100000 in
set_option maxHeartbeats 1000000 in
theorem Tryd.rat_six (k n i j : Nat) (w : World) (hk : 1 ≤ k) (hk7 : k ≤ 7) (hk6 : k = 6) (hn4 : n ≤ 400) (hi : i < n) (hj : j < n) :
    Calls Tryd.prog 29 #[.int .i64 (k : Int), .int .i64 (n : Int), .int .i64 (i : Int), .int .i64 (j : Int)] w fun e w' => e = .returned (.int .i64 (rank k n i j : Int)) ∧ w' = w := by
  have h6 : k = 6 ∨ k = 7 := .inl hk6
  subst hk6
  rw [rank_col h6 hi hj]
  have T := fun (c : Nat) (w : World) => Tryd.rtells_calls 6 c j w hk hk7
  have R := fun (c : Nat) => told_col (a := j) (b := c) h6
  have V := fun (r : Nat) (w : World) => Tryd.rcolumn_calls 6 n r w hk hk7 h6 hn4
  have hm : ∀ a, a ≤ j → rowsUp 6 n a ≤ 160000 := fun a ha => Nat.le_trans (rowsUp_le 6 n a) (Nat.mul_le_mul (by omega) hn4 : a * n ≤ 400 * 400)
  simp only [Int.cast_ofNat_Int] at T V ⊢
  go_enter Tryd.func29, Tryd.ntmps29
  go_wp2
  go_loop [9, 10] (fun s x => ∃ a : Nat, a ≤ j ∧ x = .int .i64 (a : Int) ∧ s = .int .i64 (rowsUp 6 n a : Int)) (fun _ x => j - (intOf x).toNat)
  case atStart => exact ⟨0, Nat.zero_le _, rfl, rfl⟩
  case round =>
    obtain ⟨a, ha, rfl, rfl⟩ := hrel
    have m1 := hm a ha
    obtain ⟨u, hu⟩ : ∃ u, rowsUp 6 n a = u := ⟨_, rfl⟩
    rw [hu] at m1 ⊢
    by_cases hlt : a < j
    · have Va := fun (w : World) => V a w
      have hS : rowsUp 6 n (a + 1) = rowsUp 6 n a + rowUp 6 a n := rfl
      have m2 := rowUp_le 6 a n
      obtain ⟨v, hv⟩ : ∃ v, rowUp 6 a n = v := ⟨_, rfl⟩
      rw [hv] at Va m2 hS
      rw [hu] at hS
      have HS := Lib.hid hS
      clear hS hu hv T R V hm
      go_wp2_with (go_at_call 36; (with_reducible refine (Va _).mono ?_); rintro e w1 ⟨rfl, hw1⟩; obtain rfl : w = w1 := hw1.symm)
      go_round
      case rel => exact ⟨a + 1, by omega, by go_num, by rw [HS.out]; go_num⟩
      case measure => simp [intOf]; omega
    · obtain rfl : a = j := by omega
      have Hu := Lib.hid hu
      clear hu V hm
      go_wp2
      go_loop [9, 11] (fun s x => ∃ c : Nat, c ≤ i ∧ x = .int .i64 (c : Int) ∧ s = .int .i64 ((u + rowUp 6 a c : Nat) : Int)) (fun _ x => i - (intOf x).toNat)
      case atStart => exact ⟨0, Nat.zero_le _, rfl, by simp [rowUp]⟩
      case round =>
        obtain ⟨c, hc, rfl, rfl⟩ := hrel
        have Tc := fun (w : World) => T c w
        have Rc := R c
        have Nc := rowUp_le 6 a c
        have hS : rowUp 6 a (c + 1) = rowUp 6 a c + if told 6 a c = true then 1 else 0 := rfl
        rw [Rc] at hS
        clear T R Rc
        obtain ⟨v, hv⟩ : ∃ v, rowUp 6 a c = v := ⟨_, rfl⟩
        rw [hv] at Nc hS ⊢
        by_cases hlt2 : c < i
        · cases ht : tells 6 c a with
          | true =>
            rw [ht] at Tc hS
            have HS := Lib.hid hS
            clear ht hS hv
            go_wp2_with (go_at_call 28; (with_reducible refine (Tc _).mono ?_); rintro e w1 ⟨rfl, hw1⟩; obtain rfl : w = w1 := hw1.symm)
            go_round
            case rel => exact ⟨c + 1, by omega, by go_num, by rw [HS.out]; go_num⟩
            case measure => simp [intOf]; omega
          | false =>
            rw [ht] at Tc hS
            have HS := Lib.hid hS
            clear ht hS hv
            go_wp2_with (go_at_call 28; (with_reducible refine (Tc _).mono ?_); rintro e w1 ⟨rfl, hw1⟩; obtain rfl : w = w1 := hw1.symm)
            go_round
            case rel => exact ⟨c + 1, by omega, by go_num, by rw [HS.out]; simp⟩
            case measure => simp [intOf]; omega
        · obtain rfl : c = i := by omega
          have Hv := Lib.hid hv
          clear hv
          go_wp2
          go_ret
          exact ⟨lret_num (by rw [Hu.out, Hv.out]), rfl⟩
set_option maxRecDepth 100000 in
set_option maxHeartbeats 1000000 in
theorem Tryd.rat_seven (k n i j : Nat) (w : World) (hk : 1 ≤ k) (hk7 : k ≤ 7) (hk6 : k = 7) (hn4 : n ≤ 400) (hi : i < n) (hj : j < n) :
    Calls Tryd.prog 29 #[.int .i64 (k : Int), .int .i64 (n : Int), .int .i64 (i : Int), .int .i64 (j : Int)] w fun e w' => e = .returned (.int .i64 (rank k n i j : Int)) ∧ w' = w := by
  have h6 : k = 6 ∨ k = 7 := .inr hk6
  subst hk6
  rw [rank_col h6 hi hj]
  have T := fun (c : Nat) (w : World) => Tryd.rtells_calls 7 c j w hk hk7
  have R := fun (c : Nat) => told_col (a := j) (b := c) h6
  have V := fun (r : Nat) (w : World) => Tryd.rcolumn_calls 7 n r w hk hk7 h6 hn4
  have hm : ∀ a, a ≤ j → rowsUp 7 n a ≤ 160000 := fun a ha => Nat.le_trans (rowsUp_le 7 n a) (Nat.mul_le_mul (by omega) hn4 : a * n ≤ 400 * 400)
  simp only [Int.cast_ofNat_Int] at T V ⊢
  go_enter Tryd.func29, Tryd.ntmps29
  go_wp2
  go_loop [9, 10] (fun s x => ∃ a : Nat, a ≤ j ∧ x = .int .i64 (a : Int) ∧ s = .int .i64 (rowsUp 7 n a : Int)) (fun _ x => j - (intOf x).toNat)
  case atStart => exact ⟨0, Nat.zero_le _, rfl, rfl⟩
  case round =>
    obtain ⟨a, ha, rfl, rfl⟩ := hrel
    have m1 := hm a ha
    obtain ⟨u, hu⟩ : ∃ u, rowsUp 7 n a = u := ⟨_, rfl⟩
    rw [hu] at m1 ⊢
    by_cases hlt : a < j
    · have Va := fun (w : World) => V a w
      have hS : rowsUp 7 n (a + 1) = rowsUp 7 n a + rowUp 7 a n := rfl
      have m2 := rowUp_le 7 a n
      obtain ⟨v, hv⟩ : ∃ v, rowUp 7 a n = v := ⟨_, rfl⟩
      rw [hv] at Va m2 hS
      rw [hu] at hS
      have HS := Lib.hid hS
      clear hS hu hv T R V hm
      go_wp2_with (go_at_call 36; (with_reducible refine (Va _).mono ?_); rintro e w1 ⟨rfl, hw1⟩; obtain rfl : w = w1 := hw1.symm)
      go_round
      case rel => exact ⟨a + 1, by omega, by go_num, by rw [HS.out]; go_num⟩
      case measure => simp [intOf]; omega
    · obtain rfl : a = j := by omega
      have Hu := Lib.hid hu
      clear hu V hm
      go_wp2
      go_loop [9, 11] (fun s x => ∃ c : Nat, c ≤ i ∧ x = .int .i64 (c : Int) ∧ s = .int .i64 ((u + rowUp 7 a c : Nat) : Int)) (fun _ x => i - (intOf x).toNat)
      case atStart => exact ⟨0, Nat.zero_le _, rfl, by simp [rowUp]⟩
      case round =>
        obtain ⟨c, hc, rfl, rfl⟩ := hrel
        have Tc := fun (w : World) => T c w
        have Rc := R c
        have Nc := rowUp_le 7 a c
        have hS : rowUp 7 a (c + 1) = rowUp 7 a c + if told 7 a c = true then 1 else 0 := rfl
        rw [Rc] at hS
        clear T R Rc
        obtain ⟨v, hv⟩ : ∃ v, rowUp 7 a c = v := ⟨_, rfl⟩
        rw [hv] at Nc hS ⊢
        by_cases hlt2 : c < i
        · cases ht : tells 7 c a with
          | true =>
            rw [ht] at Tc hS
            have HS := Lib.hid hS
            clear ht hS hv
            go_wp2_with (go_at_call 28; (with_reducible refine (Tc _).mono ?_); rintro e w1 ⟨rfl, hw1⟩; obtain rfl : w = w1 := hw1.symm)
            go_round
            case rel => exact ⟨c + 1, by omega, by go_num, by rw [HS.out]; go_num⟩
            case measure => simp [intOf]; omega
          | false =>
            rw [ht] at Tc hS
            have HS := Lib.hid hS
            clear ht hS hv
            go_wp2_with (go_at_call 28; (with_reducible refine (Tc _).mono ?_); rintro e w1 ⟨rfl, hw1⟩; obtain rfl : w = w1 := hw1.symm)
            go_round
            case rel => exact ⟨c + 1, by omega, by go_num, by rw [HS.out]; simp⟩
            case measure => simp [intOf]; omega
        · obtain rfl : c = i := by omega
          have Hv := Lib.hid hv
          clear hv
          go_wp2
          go_ret
          exact ⟨lret_num (by rw [Hu.out, Hv.out]), rfl⟩
theorem Tryd.rat_calls (k n i j : Nat) (w : World) (hk : 1 ≤ k) (hk7 : k ≤ 7) (hn4 : n ≤ 400) (hi : i < n) (hj : j < n) :
    Calls Tryd.prog 29 #[.int .i64 (k : Int), .int .i64 (n : Int), .int .i64 (i : Int), .int .i64 (j : Int)] w fun e w' => e = .returned (.int .i64 (rank k n i j : Int)) ∧ w' = w := by
  by_cases h6 : k = 6
  · exact Tryd.rat_six k n i j w hk hk7 h6 hn4 hi hj
  · by_cases h7 : k = 7
    · exact Tryd.rat_seven k n i j w hk hk7 h7 hn4 hi hj
    · exact Tryd.rat_row k n i j w hk hk7 h6 h7 hn4 hi hj
end Go.Proofs
