/- fixed.Cmp, fixed.To, and the document's Least, Cmp, To. Conditions: those that each theorem names. -/
import Derived.Test.YtfhjndldiggchaaDoorLeast
import Derived.Test.YtfhjndldiggchaaDoorShelf
namespace Go.Fx
/-- 10 to the x. -/
def p10 (x : Int) : Int := ((10 ^ x.toNat : Nat) : Int)
theorem p10_nat (k : Nat) : p10 (k : Int) = ((10 ^ k : Nat) : Int) := by simp [p10]
theorem p10_pos (x : Int) : 1 ≤ p10 x := by
  unfold p10
  have : 0 < 10 ^ x.toNat := Nat.pow_pos (by omega)
  omega
theorem p10_le {x : Int} {k : Nat} (h : x ≤ k) : p10 x ≤ ((10 ^ k : Nat) : Int) := by
  unfold p10
  have : 10 ^ x.toNat ≤ 10 ^ k := Nat.pow_le_pow_right (by omega) (by omega)
  omega
theorem mul_bd {m t M T : Int} (h1 : -M ≤ m) (h2 : m ≤ M) (h3 : 0 ≤ t) (h4 : t ≤ T) (hM : 0 ≤ M) : -(M * T) ≤ m * t ∧ m * t ≤ M * T := by
  have a : m * t ≤ M * t := Int.mul_le_mul_of_nonneg_right h2 h3
  have b : M * t ≤ M * T := Int.mul_le_mul_of_nonneg_left h4 hM
  have c : (-M) * t ≤ m * t := Int.mul_le_mul_of_nonneg_right h1 h3
  rw [Int.neg_mul] at c
  omega
/-- How two numbers compare. -/
def cmpN (m s k t : Int) : Int := Lib.compareInt (m * p10 (6 - s)) (k * p10 (6 - t))
theorem scale_bd {m s : Int} (h0 : 0 ≤ s) (h6 : s ≤ 6) (h1 : -1000000000000 ≤ m) (h2 : m ≤ 1000000000000) : -1000000000000000000 ≤ m * p10 (6 - s) ∧ m * p10 (6 - s) ≤ 1000000000000000000 := by
  have hp := p10_pos (6 - s)
  have hq : p10 (6 - s) ≤ ((10 ^ 6 : Nat) : Int) := p10_le (by omega)
  have := mul_bd (M := 1000000000000) (T := 1000000) (t := p10 (6 - s)) h1 h2 (by omega) (by simpa using hq) (by omega)
  omega
end Go.Fx
namespace Go.Proofs
open Go.RowKit Go.Fx
attribute [local go_sem] Oper.semAt_some

theorem quiet_left {P : Program} {f : FuncId} {args : Array Value} {w : World} {n : Nat} {v : Value}
    (h : Calls P f args (w.drewN n) fun e w' => e = .returned v ∧ w.drewN n = w') : Calls P f args (w.drewN n) fun e w'' => e = .returned v ∧ ∃ m, w'' = w.drewN m :=
  h.mono fun _ _ ⟨he, hm⟩ => ⟨he, n, hm.symm⟩
theorem quiet_add_left {P : Program} {f : FuncId} {args : Array Value} {w : World} {a n : Nat} {v : Value}
    (h : Calls P f args (w.drewN (a + n)) fun e w' => e = .returned v ∧ w.drewN (a + n) = w') :
    Calls P f args (w.drewN (a + n)) fun e w'' => e = .returned v ∧ ∃ m, w'' = w.drewN (a + m) :=
  h.mono fun _ _ ⟨he, hm⟩ => ⟨he, n, hm.symm⟩
theorem below_drewN {B : Nat} {a w : World} (h : Below B a w) (n : Nat) : Below B a (w.drewN n) := ⟨h.os, h.tape, h.output, h.size, h.block⟩
theorem bcell {W w1 : World} (hb : Below W.heap.size W w1) : (∀ b o, b < W.heap.size → w1.cell? ⟨b, o, none⟩ = W.cell? ⟨b, o, none⟩) ∧ (∀ b o, b < W.heap.size → w1.frozen? ⟨b, o, none⟩ = W.frozen? ⟨b, o, none⟩) :=
  ⟨fun b o h => hb.cell (p := ⟨b, o, none⟩) h, fun b o h => hb.frozen (p := ⟨b, o, none⟩) h⟩

theorem Tryd.tens_int (x : Int) (h0 : 0 ≤ x) (h1 : x ≤ 18) (w : World) :
    Calls Tryd.prog 33 #[.int .i64 x] w fun e w' => e = .returned (.int .i64 (p10 x)) ∧ w = w' := by
  obtain ⟨k, rfl⟩ : ∃ k : Nat, x = (k : Int) := ⟨x.toNat, by omega⟩
  rw [p10_nat]
  exact Tryd.tens_any k (by omega) w
theorem Tryd.rtens_int (x : Int) (h0 : 0 ≤ x) (h1 : x ≤ 18) (w : World) :
    Calls Tryd.prog 31 #[.int .i64 x] w fun e w' => e = .returned (.int .i64 (p10 x)) ∧ w = w' := by
  obtain ⟨k, rfl⟩ : ∃ k : Nat, x = (k : Int) := ⟨x.toNat, by omega⟩
  rw [p10_nat]
  exact Tryd.rtens_any k (by omega) w

theorem mayB_mk {m s : Int} (h0 : 0 ≤ s) (h6 : s ≤ 6) (h1 : -1000000000000 ≤ m) (h2 : m ≤ 1000000000000) : mayB m s = true := by simp [mayB, *]
theorem mayB_of {m s : Int} (h : mayB m s = true) : 0 ≤ s ∧ s ≤ 6 ∧ -1000000000000 ≤ m ∧ m ≤ 1000000000000 := by
  simp [mayB] at h; omega
theorem Tryd.may_yes {m s : Int} (h : mayB m s = true) (w : World) :
    Calls Tryd.prog 32 #[.agg #[.int .i64 m, .int .i64 s]] w fun e w' => e = .returned (.bool true) ∧ w' = w.alloc (.cells #[.int .i64 m, .int .i64 s] 27) := by
  have := Tryd.may_any m s w
  rw [h] at this
  exact this

theorem Tryd.may_in (m s : Int) (h0 : 0 ≤ s) (h6 : s ≤ 6) (h1 : -1000000000000 ≤ m) (h2 : m ≤ 1000000000000) (w : World) :
    Calls Tryd.prog 32 #[.agg #[.int .i64 m, .int .i64 s]] w fun e w' => e = .returned (.bool true) ∧ w' = w.alloc (.cells #[.int .i64 m, .int .i64 s] 27) :=
  Tryd.may_yes (mayB_mk h0 h6 h1 h2) w

set_option maxHeartbeats 400000 in
theorem Tryd.Cmp_any (m s k t : Int) (hx : mayB m s = true) (hy : mayB k t = true) (w : World) :
    Calls Tryd.prog 20 #[.agg #[.int .i64 m, .int .i64 s], .agg #[.int .i64 k, .int .i64 t]] w fun e w' => e = .returned (.int .i64 (cmpN m s k t)) ∧ Below w.heap.size w w' := by
  obtain ⟨a1, a2, a3, a4⟩ := mayB_of hx
  obtain ⟨b1, b2, b3, b4⟩ := mayB_of hy
  have s1 := scale_bd a1 a2 a3 a4
  have s2 := scale_bd b1 b2 b3 b4
  have e1 : IntKind.i64.wrap (6 - s) = 6 - s := IntWalk.i64_in _ (by omega)
  have e2 : IntKind.i64.wrap (6 - t) = 6 - t := IntWalk.i64_in _ (by omega)
  have W1 : Hid (wrap64 (m * p10 (6 - s)) = m * p10 (6 - s)) := by unfold Hid wrap64; omega
  have W2 : Hid (wrap64 (k * p10 (6 - t)) = k * p10 (6 - t)) := by unfold Hid wrap64; omega
  clear hx hy s1 s2
  go_enter Tryd.func20, Tryd.ntmps20
  go_wp2_with (go_at_call 32; refine (Tryd.may_in _ _ (by omega) (by omega) (by omega) (by omega) _).mono ?_; rintro e w' ⟨rfl, rfl⟩)
  go_quiet ((first | (go_at_call 33; exact quiet_left (Tryd.tens_int _ (by omega) (by omega) _)) | (go_at_call 35; exact Calls.quiet_of_same (Tryd.cmp_Compare_int _ _ _))))
  go_wp2
  go_ret
  refine ⟨ret_int (by rw [W1.out, W2.out]; rfl), below_drewN ?_ _⟩
  exact (((((Below.refl _ w).alloc (Nat.le_refl _) _).alloc (by simp) _).alloc (by simp; omega) _).alloc (by simp; omega) _)

set_option maxHeartbeats 400000 in
theorem Tryd.rCmp_any (m s k t : Int) (hx : mayB m s = true) (hy : mayB k t = true) (w : World) :
    Calls Tryd.prog 21 #[.agg #[.int .i64 m, .int .i64 s], .agg #[.int .i64 k, .int .i64 t]] w fun e w' => e = .returned (.int .i64 (cmpN m s k t)) ∧ Below w.heap.size w w' := by
  obtain ⟨a1, a2, a3, a4⟩ := mayB_of hx
  obtain ⟨b1, b2, b3, b4⟩ := mayB_of hy
  have s1 := scale_bd a1 a2 a3 a4
  have s2 := scale_bd b1 b2 b3 b4
  have e1 : IntKind.i64.wrap (6 - s) = 6 - s := IntWalk.i64_in _ (by omega)
  have e2 : IntKind.i64.wrap (6 - t) = 6 - t := IntWalk.i64_in _ (by omega)
  have w1 : wrap64 (m * p10 (6 - s)) = m * p10 (6 - s) := by unfold wrap64; omega
  have w2 : wrap64 (k * p10 (6 - t)) = k * p10 (6 - t) := by unfold wrap64; omega
  obtain ⟨x, hx'⟩ : ∃ x, x = m * p10 (6 - s) := ⟨_, rfl⟩
  obtain ⟨y, hy'⟩ : ∃ y, y = k * p10 (6 - t) := ⟨_, rfl⟩
  have hz : cmpN m s k t = Lib.compareInt x y := by rw [hx', hy']; rfl
  rw [hz]
  rw [← hx'] at w1
  rw [← hy'] at w2
  have X : Hid (wrap64 (m * p10 (6 - s)) = x) := by rw [← hx']; exact w1
  have Y : Hid (wrap64 (k * p10 (6 - t)) = y) := by rw [← hy']; exact w2
  clear hx hy s1 s2 hx' hy' hz w1 w2
  go_enter Tryd.func21, Tryd.ntmps21
  go_wp2
  go_quiet ((go_at_call 31; exact quiet_left (Tryd.rtens_int _ (by omega) (by omega) _)))
  rw [X.out]
  go_wp2
  go_quiet ((go_at_call 31; exact quiet_add_left (Tryd.rtens_int _ (by omega) (by omega) _)))
  rw [Y.out]
  by_cases h1 : x < y
  · go_wp2
    go_ret
    refine ⟨ret_int (by simp [Lib.compareInt, h1]), below_drewN ?_ _⟩
    exact (((Below.refl _ w).alloc (Nat.le_refl _) _).alloc (by simp) _)
  · by_cases h2 : y < x
    · go_wp2
      go_ret
      refine ⟨ret_int (by unfold Lib.compareInt; rw [if_neg (by omega), if_pos (by omega)]), below_drewN ?_ _⟩
      exact (((Below.refl _ w).alloc (Nat.le_refl _) _).alloc (by simp) _)
    · go_wp2
      go_ret
      refine ⟨ret_int (by unfold Lib.compareInt; rw [if_neg (by omega), if_neg (by omega)]), below_drewN ?_ _⟩
      exact (((Below.refl _ w).alloc (Nat.le_refl _) _).alloc (by simp) _)

set_option maxHeartbeats 400000 in
theorem Tryd.rLeast_any (m : Int) (s : Nat) (hm0 : -9223372036854775807 ≤ m) (hm1 : m ≤ 9223372036854775807) (hs : s ≤ 6) (w : World) :
    Calls Tryd.prog 19 #[.agg #[.int .i64 m, .int .i64 (s : Int)]] w fun e w' => e = .returned (.agg #[.int .i64 (least s m).1, .int .i64 ((least s m).2 : Int)]) ∧ Below w.heap.size w w' := by
  go_enter Tryd.func19, Tryd.ntmps19
  go_wp2
  go_loopg [] s (fun g wr => ∃ m' : Int, wr = ((w.alloc (.cells #[.int .i64 m', .int .i64 (g : Int)] 30)).alloc (.cells #[.int .i64 0, .int .i64 0] 30)) ∧ g ≤ s ∧ -9223372036854775807 ≤ m' ∧ m' ≤ 9223372036854775807 ∧ Hid (least g m' = least s m))
  case atStart => exact ⟨m, rfl, Nat.le_refl _, hm0, hm1, rfl⟩
  case round =>
    obtain ⟨m', rfl, hg, h1, h2, HL⟩ := hrel
    by_cases hg0 : 0 < gk
    · obtain ⟨g, rfl⟩ : ∃ g, gk = g + 1 := ⟨gk - 1, by omega⟩
      by_cases hz : m'.tmod 10 = 0
      · have hz' : (m'.tmod 10 == 0) = true := by simpa using hz
        have hb := tdiv10_bd h1 h2
        have HN : Hid (least g (m'.tdiv 10) = least s m) := by have := HL.out; rw [least_go g m' hz] at this; exact this
        clear hz HL
        go_wp2
        go_roundg g
        case measure => omega
        case rel => exact ⟨m'.tdiv 10, by simp, by omega, hb.1, hb.2, HN⟩
      · have hz' : (m'.tmod 10 == 0) = false := by simpa using hz
        have HN : Hid (least s m = (m', g + 1)) := by rw [← HL.out]; exact least_stop _ _ hz
        clear hz HL
        go_wp2
        refine bodyPost_ret (v := .agg #[.int .i64 m', .int .i64 ((g + 1 : Nat) : Int)]) (by simp [results, Tryd.results19, go_sem]) rfl ⟨ret_num HN.out, ?_⟩
        exact (((Below.refl _ w).alloc (Nat.le_refl _) _).alloc (by simp) _)
    · obtain rfl : gk = 0 := by omega
      have HN : Hid (least s m = (m', 0)) := by rw [← HL.out]; rfl
      clear HL
      go_wp2
      refine bodyPost_ret (v := .agg #[.int .i64 m', .int .i64 ((0 : Nat) : Int)]) (by simp [results, Tryd.results19, go_sem]) rfl ⟨ret_num HN.out, ?_⟩
      exact (((Below.refl _ w).alloc (Nat.le_refl _) _).alloc (by simp) _)
#print axioms Tryd.rLeast_any
#print axioms Tryd.rCmp_any
#print axioms Tryd.Cmp_any
end Go.Proofs
