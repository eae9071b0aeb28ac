/- fixed.may, fixed.Least, the statements' own good, and the document's tens and Least. Conditions: those that each theorem names. -/
import Derived.Test.YtfhjndldiggchaaDoorSmall
import Derived.Deep.LoopGhost
namespace Go.Fx
/-- The least form of m divided by 10 to the s. -/
def least : Nat → Int → Int × Nat
  | 0, m => (m, 0)
  | s + 1, m => if m.tmod 10 = 0 then least s (m.tdiv 10) else (m, s + 1)
theorem least_zero (s : Nat) : least s 0 = (0, 0) := by
  induction s with
  | zero => rfl
  | succ s ih => simp [least, ih]
theorem least_le (s : Nat) (m : Int) : (least s m).2 ≤ s := by
  induction s generalizing m with
  | zero => simp [least]
  | succ s ih => unfold least; split
                 · have := ih (m.tdiv 10); omega
                 · simp
theorem least_stop (g : Nat) (m : Int) (h : ¬ m.tmod 10 = 0) : least g m = (m, g) := by
  cases g with
  | zero => rfl
  | succ g => simp [least, h]
theorem least_go (g : Nat) (m : Int) (h : m.tmod 10 = 0) : least (g + 1) m = least g (m.tdiv 10) := by simp [least, h]
theorem tdiv_cases (m : Int) (k : Int) : (0 ≤ m ∧ m.tdiv k = m / k ∧ m.tmod k = m % k) ∨ (m < 0 ∧ m.tdiv k = -((-m) / k) ∧ m.tmod k = -((-m) % k)) := by
  by_cases h : 0 ≤ m
  · exact .inl ⟨h, Int.tdiv_eq_ediv_of_nonneg h, Int.tmod_eq_emod_of_nonneg h⟩
  · refine .inr ⟨by omega, ?_, ?_⟩
    · have := Int.neg_tdiv (-m) k
      rw [Int.neg_neg] at this
      rw [this, Int.tdiv_eq_ediv_of_nonneg (by omega)]
    · have := Int.neg_tmod (-m) k
      rw [Int.neg_neg] at this
      rw [this, Int.tmod_eq_emod_of_nonneg (by omega)]
theorem tdiv10_bd {m : Int} (h1 : -9223372036854775807 ≤ m) (h2 : m ≤ 9223372036854775807) : -9223372036854775807 ≤ m.tdiv 10 ∧ m.tdiv 10 ≤ 9223372036854775807 := by
  rcases tdiv_cases m 10 with ⟨a, b, _⟩ | ⟨a, b, _⟩ <;> omega
end Go.Fx
namespace Go.Proofs
open Go.RowKit Go.Fx
attribute [local go_sem] Oper.semAt_some

theorem ret_num {a : Int} {c : Nat} {x : Int × Nat} (h : x = (a, c)) : Ending.returned (.agg #[.int .i64 a, .int .i64 (c : Int)]) = .returned (.agg #[.int .i64 x.1, .int .i64 (x.2 : Int)]) := by rw [h]

theorem Tryd.may_any (m s : Int) (w : World) :
    Calls Tryd.prog 32 #[.agg #[.int .i64 m, .int .i64 s]] w fun e w' => e = .returned (.bool (mayB m s)) ∧ w' = w.alloc (.cells #[.int .i64 m, .int .i64 s] 27) := by
  by_cases h1 : 0 ≤ s
  · by_cases h2 : s ≤ 6
    · by_cases h3 : -1000000000000 ≤ m
      · by_cases h4 : m ≤ 1000000000000
        · go_enter Tryd.func32, Tryd.ntmps32
          go_wp2
          go_ret
          exact ⟨ret_bool (by simp [mayB]; omega), rfl⟩
        · go_enter Tryd.func32, Tryd.ntmps32
          go_wp2
          go_ret
          exact ⟨ret_bool (by simp [mayB]; omega), rfl⟩
      · go_enter Tryd.func32, Tryd.ntmps32
        go_wp2
        go_ret
        exact ⟨ret_bool (by simp [mayB]; omega), rfl⟩
    · go_enter Tryd.func32, Tryd.ntmps32
      go_wp2
      go_ret
      exact ⟨ret_bool (by simp [mayB]; omega), rfl⟩
  · go_enter Tryd.func32, Tryd.ntmps32
    go_wp2
    go_ret
    exact ⟨ret_bool (by simp [mayB]; omega), rfl⟩

theorem Tryd.good_any (m s : Int) (w : World) :
    Calls Tryd.prog 15 #[.agg #[.int .i64 m, .int .i64 s]] w fun e w' => e = .returned (.bool (mayB m s)) ∧ w' = w.alloc (.cells #[.int .i64 m, .int .i64 s] 27) := by
  by_cases h1 : 0 ≤ s
  · by_cases h2 : s ≤ 6
    · by_cases h3 : -1000000000000 ≤ m
      · by_cases h4 : m ≤ 1000000000000
        · go_enter Tryd.func15, Tryd.ntmps15
          go_wp2
          go_ret
          exact ⟨ret_bool (by simp [mayB]; omega), rfl⟩
        · go_enter Tryd.func15, Tryd.ntmps15
          go_wp2
          go_ret
          exact ⟨ret_bool (by simp [mayB]; omega), rfl⟩
      · go_enter Tryd.func15, Tryd.ntmps15
        go_wp2
        go_ret
        exact ⟨ret_bool (by simp [mayB]; omega), rfl⟩
    · go_enter Tryd.func15, Tryd.ntmps15
      go_wp2
      go_ret
      exact ⟨ret_bool (by simp [mayB]; omega), rfl⟩
  · go_enter Tryd.func15, Tryd.ntmps15
    go_wp2
    go_ret
    exact ⟨ret_bool (by simp [mayB]; omega), rfl⟩

theorem Tryd.rtens_any (k : Nat) (hk : k ≤ 18) (w : World) :
    Calls Tryd.prog 31 #[.int .i64 (k : Int)] w fun e w' => e = .returned (.int .i64 ((10 ^ k : Nat) : Int)) ∧ w = w' := by
  go_enter Tryd.func31, Tryd.ntmps31
  go_wp2
  go_loop [3, 4] (fun t i => ∃ j : Nat, j ≤ k ∧ i = .int .i64 j ∧ t = .int .i64 ((10 ^ j : Nat) : Int)) (fun _ i => k - (intOf i).toNat)
  case atStart => exact ⟨0, Nat.zero_le _, rfl, rfl⟩
  case round =>
    obtain ⟨j, hj, rfl, rfl⟩ := hrel
    by_cases hlt : j < k
    · obtain ⟨t, ht⟩ : ∃ t : Int, t = ((10 ^ j : Nat) : Int) := ⟨_, rfl⟩
      have htb : t ≤ 100000000000000000 := by
        rw [ht]; have : 10 ^ j ≤ 10 ^ 17 := Nat.pow_le_pow_right (by omega) (by omega); omega
      have ht0 : 0 ≤ t := by rw [ht]; exact Int.natCast_nonneg _
      rw [← ht]
      have Ht := Lib.hid ht
      clear ht
      go_wp2
      go_round
      case rel => exact ⟨j + 1, by omega, by go_num, by rw [Ht.out]; rw [Nat.pow_succ]; go_num⟩
      case measure => simp [intOf]; omega
    · obtain rfl : j = k := by omega
      go_wp2
      go_ret
      exact ⟨rfl, rfl⟩

set_option maxHeartbeats 400000 in
theorem Tryd.Least_any (m : Int) (s : Nat) (hm0 : -9223372036854775807 ≤ m) (hm1 : m ≤ 9223372036854775807) (hs : s ≤ 6) (w : World) :
    Calls Tryd.prog 18 #[.agg #[.int .i64 m, .int .i64 (s : Int)]] w fun e w' => e = .returned (.agg #[.int .i64 (least s m).1, .int .i64 ((least s m).2 : Int)]) ∧ Below w.heap.size w w' := by
  by_cases h0 : m = 0
  · obtain ⟨x, hx⟩ : ∃ x, least s m = x := ⟨_, rfl⟩
    obtain rfl : x = (0, 0) := by rw [← hx, h0]; exact least_zero s
    rw [hx]
    clear hx
    subst h0
    go_enter Tryd.func18, Tryd.ntmps18
    go_wp2
    refine bodyPost_ret (v := .agg #[.int .i64 0, .int .i64 0]) (by simp [results, Tryd.results18, go_sem]) rfl ⟨rfl, ?_⟩
    exact (((Below.refl _ w).alloc (Nat.le_refl _) _).alloc (by simp) _)
  · go_enter Tryd.func18, Tryd.ntmps18
    go_wp2
    go_loopg [] s (fun g wr => ∃ m' : Int, wr = ((w.alloc (.cells #[.int .i64 m', .int .i64 (g : Int)] 27)).alloc (.cells #[.int .i64 0, .int .i64 0] 27)) ∧ g ≤ s ∧ -9223372036854775807 ≤ m' ∧ m' ≤ 9223372036854775807 ∧ Hid (least g m' = least s m))
    case atStart => exact ⟨m, rfl, Nat.le_refl _, hm0, hm1, rfl⟩
    case round =>
      obtain ⟨m', rfl, hg, h1, h2, HL⟩ := hrel
      by_cases hg0 : 0 < gk
      · obtain ⟨g, rfl⟩ : ∃ g, gk = g + 1 := ⟨gk - 1, by omega⟩
        by_cases hz : m'.tmod 10 = 0
        · have hz' : (m'.tmod 10 == 0) = true := by simpa using hz
          have hb := tdiv10_bd h1 h2
          have HN : Hid (least g (m'.tdiv 10) = least s m) := by have := HL.out; rw [least_go g m' hz] at this; exact this
          clear hz HL
          go_wp2
          go_roundg g
          case measure => omega
          case rel => exact ⟨m'.tdiv 10, by simp, by omega, hb.1, hb.2, HN⟩
        · have hz' : (m'.tmod 10 == 0) = false := by simpa using hz
          have HN : Hid (least s m = (m', g + 1)) := by rw [← HL.out]; exact least_stop _ _ hz
          clear hz HL
          go_wp2
          refine bodyPost_ret (v := .agg #[.int .i64 m', .int .i64 ((g + 1 : Nat) : Int)]) (by simp [results, Tryd.results18, go_sem]) rfl ⟨ret_num HN.out, ?_⟩
          exact (((Below.refl _ w).alloc (Nat.le_refl _) _).alloc (by simp) _)
      · obtain rfl : gk = 0 := by omega
        have HN : Hid (least s m = (m', 0)) := by rw [← HL.out]; rfl
        clear HL
        go_wp2
        refine bodyPost_ret (v := .agg #[.int .i64 m', .int .i64 ((0 : Nat) : Int)]) (by simp [results, Tryd.results18, go_sem]) rfl ⟨ret_num HN.out, ?_⟩
        exact (((Below.refl _ w).alloc (Nat.le_refl _) _).alloc (by simp) _)
#print axioms Tryd.Least_any
end Go.Proofs
