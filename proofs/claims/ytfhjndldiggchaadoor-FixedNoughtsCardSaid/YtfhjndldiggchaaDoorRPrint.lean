/- The document's Print. Conditions: a number of which something is promised. -/
import Derived.Test.YtfhjndldiggchaaDoorPad
import Derived.Test.YtfhjndldiggchaaDoorShown
namespace Go.Proofs
open Go.RowKit Go.Fx
attribute [local go_sem] Oper.semAt_some

/-- A byte as a text. -/
theorem one_byte (W : World) (d : Nat) (h : d < 10) : (convert 57 9 (.slice (some ⟨W.heap.size, 0, none⟩) 1 1)).run Tryd.prog (W.alloc (.cells #[.int .u8 (48 + (d : Int))] 5)) = .ok (.string ⟨[UInt8.ofNat (48 + d)].toArray⟩) (W.alloc (.cells #[.int .u8 (48 + (d : Int))] 5)) := by
  have hb : ((UInt8.ofNat (48 + d)).toNat : Int) = 48 + (d : Int) := by rw [byte_of h]; omega
  rw [← hb]
  exact run_convert_bytes_back (P := Tryd.prog) (W.alloc (.cells #[.int .u8 ((UInt8.ofNat (48 + d)).toNat : Int)] 5)) 57 9 5 ⟨W.heap.size, 0, none⟩ 1 [UInt8.ofNat (48 + d)] Tryd.underlying57 Tryd.underlying5 Tryd.underlying9 (fun j hj => by
    obtain rfl : j = 0 := by simp at hj; omega
    exact (Boxed.new W 5 _).cell)
theorem made_len {a s i : Nat} (h : (made a s i).length ≤ i + 1) (D : UInt8) (hl : made a s (i + 1) = D :: made a s i) : (made a s (i + 1)).length ≤ i + 1 + 1 := by rw [hl]; simp; omega
/-- What the loop knows. -/
def Made (a s i q : Nat) (l : List UInt8) : Prop := q = a / 10 ^ i ∧ l = made a s i ∧ (i ≤ s + 1 ∨ 0 < a / 10 ^ (i - 1)) ∧ l.length ≤ i + 1
theorem Made.div {a s i q : Nat} {l : List UInt8} (h : Made a s i q l) : q / 10 = a / 10 ^ (i + 1) := by rw [h.1, Nat.div_div_eq_div_mul, Nat.pow_succ]
theorem Made.low {a s i q : Nat} {l : List UInt8} (h : Made a s i q l) (hi : i < s) : Made a s (i + 1) (q / 10) (UInt8.ofNat (48 + q % 10) :: l) := by
  refine ⟨h.div, ?_, .inl (by omega), ?_⟩
  · rw [made_low hi, h.1, h.2.1]
  · have := h.2.2.2; simp; omega
theorem Made.at {a s q : Nat} {l : List UInt8} (h : Made a s s q l) (hs : s ≠ 0) (hl : l.length ≤ s) : Made a s (s + 1) (q / 10) (UInt8.ofNat (48 + q % 10) :: 46 :: l) := by
  refine ⟨h.div, ?_, .inl (by omega), ?_⟩
  · rw [made_at, h.1, h.2.1, if_neg hs]; rfl
  · simp; omega
theorem Made.at0 {a q : Nat} {l : List UInt8} (h : Made a 0 0 q l) : Made a 0 (0 + 1) (q / 10) (UInt8.ofNat (48 + q % 10) :: l) := by
  refine ⟨h.div, ?_, .inl (by omega), ?_⟩
  · rw [made_at, h.1, h.2.1]; rfl
  · have := h.2.2.2; simp; omega
theorem Made.high {a s i q : Nat} {l : List UInt8} (h : Made a s i q l) (hi : s < i) (hq : 0 < q) : Made a s (i + 1) (q / 10) (UInt8.ofNat (48 + q % 10) :: l) := by
  refine ⟨h.div, ?_, .inr (by rw [Nat.add_sub_cancel, ← h.1]; exact hq), ?_⟩
  · rw [made_high hi, h.1, h.2.1]
  · have := h.2.2.2; simp; omega
theorem pad_len (x i : Nat) : (pad x i).length = i := by
  induction i generalizing x with
  | zero => rfl
  | succ i ih => rw [pad, List.length_append, ih]; rfl
theorem Made.short {a s q : Nat} {l : List UInt8} (h : Made a s s q l) : l.length ≤ s := by
  rw [h.2.1]; unfold made; rw [if_pos (Nat.le_refl s), pad_len]; exact Nat.le_refl s
theorem pow_big {a i : Nat} (ha : a ≤ 1000000000000) (h : 0 < a / 10 ^ (i - 1)) : i ≤ 13 := by
  have h1 := (Nat.div_pos_iff.1 h).2
  apply Nat.le_of_not_lt
  intro hi
  have : 10 ^ 13 ≤ 10 ^ (i - 1) := Nat.pow_le_pow_right (by omega) (by omega)
  omega
set_option maxRecDepth 100000 in
set_option maxHeartbeats 1000000 in
theorem Tryd.rPrint_pos (a s : Nat) (ha : a ≤ 1000000000000) (hs : s ≤ 6) (w : World) :
    Calls Tryd.prog 17 #[.agg #[.int .i64 (a : Int), .int .i64 (s : Int)]] w fun e w' => e = .returned (.string ⟨(printN (a : Int) s).toArray⟩) ∧ Below w.heap.size w w' := by
  have HP : Hid (printN (a : Int) s = printA a s) := by
    unfold Hid printN; rw [if_neg (by omega)]; simp
  go_enter Tryd.func17, Tryd.ntmps17
  go_wp2
  go_loopg [3, 5, 6] 20 (fun g v5 v6 v7 wr => ∃ (i q : Nat) (l : List UInt8), g = 20 - i ∧ i ≤ 14 ∧ q ≤ 1000000000000 ∧ v5 = .int .i64 (q : Int) ∧ v6 = .string ⟨l.toArray⟩ ∧ v7 = .int .i64 (i : Int) ∧ Pair wr w.heap.size 30 (.int .i64 (a : Int)) (.int .i64 (s : Int)) ∧ Below w.heap.size w wr ∧ l.length ≤ 40 ∧ Hid (Made a s i q l))
  case atStart =>
    exact ⟨0, a, [], rfl, by omega, ha, rfl, rfl, rfl, Pair.new _ _ _ _, (Below.refl _ w).alloc (Nat.le_refl _) _, by simp, ⟨by simp, (made_zero a s).symm, .inl (by omega), by simp⟩⟩
  case round =>
    obtain ⟨i, q, l, hg, hi, hq, rfl, rfl, rfl, hp, hB, hl, HH⟩ := hrel
    have c0 := hp.c0
    have c1 := hp.c1
    have hlt := hp.lt
    obtain ⟨D, hD⟩ : ∃ D, D = UInt8.ofNat (48 + q % 10) := ⟨_, rfl⟩
    have hcv : ∀ W : World, (convert 57 9 (.slice (some ⟨W.heap.size, 0, none⟩) 1 1)).run Tryd.prog (W.alloc (.cells #[.int .u8 (48 + (q : Int) % 10)] 5)) = .ok (.string ⟨[D].toArray⟩) (W.alloc (.cells #[.int .u8 (48 + (q : Int) % 10)] 5)) := by
      intro W
      have := one_byte W (q % 10) (by omega)
      rw [hD]
      simpa using this
    have pn := Pair.next hp (Below.alloc (Below.refl wr.heap.size wr) (Nat.le_refl _) (.cells #[.int .u8 (48 + (q : Int) % 10)] 5))
    have bn := Below.alloc hB hB.size (.cells #[.int .u8 (48 + (q : Int) % 10)] 5)
    have HD := Lib.hid hD
    have hi13 : i ≤ 13 := by
      rcases HH.out.2.2.1 with h | h
      · omega
      · exact pow_big ha h
    have hl14 := HH.out.2.2.2
    clear hD hl
    by_cases h1 : i < s
    · have HM : Hid (Made a s (i + 1) (q / 10) (D :: l)) := by have := HH.out.low h1; rw [← HD.out] at this; exact this
      clear HH HD
      go_wp2
      go_roundg (20 - (i + 1))
      case measure => omega
      case rel => exact ⟨i + 1, q / 10, D :: l, rfl, by omega, by omega, by simp, by rw [cat]; rfl, by go_num, pn, bn, by simp; omega, HM⟩
    · by_cases h2 : i = s
      · subst h2
        have hsh := HH.out.short
        by_cases h3 : i = 0
        · subst h3
          have HM : Hid (Made a 0 (0 + 1) (q / 10) (D :: l)) := by have := HH.out.at0; rw [← HD.out] at this; exact this
          clear HH HD h1
          rcases Nat.eq_zero_or_pos q with hq0 | hq0
          · subst hq0
            have hcz : ∀ W : World, (convert 57 9 (.slice (some ⟨W.heap.size, 0, none⟩) 1 1)).run Tryd.prog (W.alloc (.cells #[.int .u8 48] 5)) = .ok (.string ⟨[D].toArray⟩) (W.alloc (.cells #[.int .u8 48] 5)) := fun W => hcv W
            have pz := Pair.next hp (Below.alloc (Below.refl wr.heap.size wr) (Nat.le_refl _) (.cells #[.int .u8 48] 5))
            have bz := Below.alloc hB hB.size (.cells #[.int .u8 48] 5)
            clear hcv
            go_wp2
            go_roundg (20 - (0 + 1))
            case measure => omega
            case rel => exact ⟨0 + 1, 0, D :: l, rfl, by omega, by omega, by simp, by rw [cat]; rfl, by go_num, pz, bz, by simp; omega, HM⟩
          · have hq1 : (0 : Int) < (q : Int) := by omega
            go_wp2
            go_roundg (20 - (0 + 1))
            case measure => omega
            case rel => exact ⟨0 + 1, q / 10, D :: l, rfl, by omega, by omega, by simp, by rw [cat]; rfl, by go_num, pn, bn, by simp; omega, HM⟩
        · have HM : Hid (Made a i (i + 1) (q / 10) (D :: 46 :: l)) := by have := HH.out.at h3 hsh; rw [← HD.out] at this; exact this
          clear HH HD h1
          have hi0 : (0 : Int) < (i : Int) := by omega
          have hi1 : 0 < i := by omega
          rcases Nat.eq_zero_or_pos q with hq0 | hq0
          · subst hq0
            have hcz : ∀ W : World, (convert 57 9 (.slice (some ⟨W.heap.size, 0, none⟩) 1 1)).run Tryd.prog (W.alloc (.cells #[.int .u8 48] 5)) = .ok (.string ⟨[D].toArray⟩) (W.alloc (.cells #[.int .u8 48] 5)) := fun W => hcv W
            have pz := Pair.next hp (Below.alloc (Below.refl wr.heap.size wr) (Nat.le_refl _) (.cells #[.int .u8 48] 5))
            have bz := Below.alloc hB hB.size (.cells #[.int .u8 48] 5)
            clear hcv
            go_wp2
            go_roundg (20 - (i + 1))
            case measure => omega
            case rel => exact ⟨i + 1, 0, D :: 46 :: l, rfl, by omega, by omega, by simp, by rw [show (⟨#[46]⟩ : ByteArray) = ⟨[(46 : UInt8)].toArray⟩ from rfl, cat, cat]; rfl, by go_num, pz, bz, by simp; omega, HM⟩
          · have hq1 : (0 : Int) < (q : Int) := by omega
            go_wp2
            go_roundg (20 - (i + 1))
            case measure => omega
            case rel => exact ⟨i + 1, q / 10, D :: 46 :: l, rfl, by omega, by omega, by simp, by rw [show (⟨#[46]⟩ : ByteArray) = ⟨[(46 : UInt8)].toArray⟩ from rfl, cat, cat]; rfl, by go_num, pn, bn, by simp; omega, HM⟩
      · have h2' : ((i : Int) == (s : Int)) = false := beq_eq_false_iff_ne.2 (by omega)
        by_cases h3 : 0 < q
        · have HM : Hid (Made a s (i + 1) (q / 10) (D :: l)) := by have := HH.out.high (by omega) h3; rw [← HD.out] at this; exact this
          clear HH HD
          go_wp2
          go_roundg (20 - (i + 1))
          case measure => omega
          case rel => exact ⟨i + 1, q / 10, D :: l, rfl, by omega, by omega, by simp, by rw [cat]; rfl, by go_num, pn, bn, by simp; omega, HM⟩
        · obtain rfl : q = 0 := by omega
          have HE : Hid (l = printA a s) := by
            rw [HH.out.2.1]; exact made_all (by omega) HH.out.1.symm HH.out.2.2.1
          clear HH HD
          go_wp2
          go_ret
          refine ⟨?_, hB⟩
          rw [HP.out, ← HE.out]
          exact congrArg (fun x => Ending.returned (.string x)) (cat [] l)
#print axioms Tryd.rPrint_pos
end Go.Proofs
