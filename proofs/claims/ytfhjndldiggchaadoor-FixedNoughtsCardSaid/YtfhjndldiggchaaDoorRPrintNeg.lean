/- The document's Print, of a number less than 0, and of each. Conditions: a number of which something is promised. -/
import Derived.Test.YtfhjndldiggchaaDoorRPrint
namespace Go.Proofs
open Go.RowKit Go.Fx
attribute [local go_sem] Oper.semAt_some

set_option maxRecDepth 100000 in
set_option maxHeartbeats 1000000 in
theorem Tryd.rPrint_neg (a s : Nat) (ha : a ≤ 1000000000000) (ha1 : 1 ≤ a) (hs : s ≤ 6) (w : World) :
    Calls Tryd.prog 17 #[.agg #[.int .i64 (-(a : Int)), .int .i64 (s : Int)]] w fun e w' => e = .returned (.string ⟨(printN (-(a : Int)) s).toArray⟩) ∧ Below w.heap.size w w' := by
  have HP : Hid (printN (-(a : Int)) s = 45 :: printA a s) := by
    unfold Hid printN; rw [if_pos (by omega)]; simp
  have hda : decide (0 < a) = true := by simp; omega
  have h0a : 0 < a := by omega
  go_enter Tryd.func17, Tryd.ntmps17
  go_wp2
  go_loopg [3, 5, 6] 20 (fun g v5 v6 v7 wr => ∃ (i q : Nat) (l : List UInt8), g = 20 - i ∧ i ≤ 14 ∧ q ≤ 1000000000000 ∧ v5 = .int .i64 (q : Int) ∧ v6 = .string ⟨l.toArray⟩ ∧ v7 = .int .i64 (i : Int) ∧ Pair wr w.heap.size 30 (.int .i64 (-(a : Int))) (.int .i64 (s : Int)) ∧ Below w.heap.size w wr ∧ l.length ≤ 40 ∧ Hid (Made a s i q l))
  case atStart =>
    exact ⟨0, a, [], rfl, by omega, ha, rfl, rfl, rfl, Pair.new _ _ _ _, (Below.refl _ w).alloc (Nat.le_refl _) _, by simp, ⟨by simp, (made_zero a s).symm, .inl (by omega), by simp⟩⟩
  case round =>
    obtain ⟨i, q, l, hg, hi, hq, rfl, rfl, rfl, hp, hB, hl, HH⟩ := hrel
    have c0 := hp.c0
    have c1 := hp.c1
    have hlt := hp.lt
    obtain ⟨D, hD⟩ : ∃ D, D = UInt8.ofNat (48 + q % 10) := ⟨_, rfl⟩
    have hcv : ∀ W : World, (convert 57 9 (.slice (some ⟨W.heap.size, 0, none⟩) 1 1)).run Tryd.prog (W.alloc (.cells #[.int .u8 (48 + (q : Int) % 10)] 5)) = .ok (.string ⟨[D].toArray⟩) (W.alloc (.cells #[.int .u8 (48 + (q : Int) % 10)] 5)) := by
      intro W
      have := one_byte W (q % 10) (by omega)
      rw [hD]
      simpa using this
    have pn := Pair.next hp (Below.alloc (Below.refl wr.heap.size wr) (Nat.le_refl _) (.cells #[.int .u8 (48 + (q : Int) % 10)] 5))
    have bn := Below.alloc hB hB.size (.cells #[.int .u8 (48 + (q : Int) % 10)] 5)
    have HD := Lib.hid hD
    have hi13 : i ≤ 13 := by
      rcases HH.out.2.2.1 with h | h
      · omega
      · exact pow_big ha h
    have hl14 := HH.out.2.2.2
    clear hD hl
    by_cases h1 : i < s
    · have HM : Hid (Made a s (i + 1) (q / 10) (D :: l)) := by have := HH.out.low h1; rw [← HD.out] at this; exact this
      clear HH HD
      go_wp2
      go_roundg (20 - (i + 1))
      case measure => omega
      case rel => exact ⟨i + 1, q / 10, D :: l, rfl, by omega, by omega, by simp, by rw [cat]; rfl, by go_num, pn, bn, by simp; omega, HM⟩
    · by_cases h2 : i = s
      · subst h2
        have hsh := HH.out.short
        by_cases h3 : i = 0
        · subst h3
          have HM : Hid (Made a 0 (0 + 1) (q / 10) (D :: l)) := by have := HH.out.at0; rw [← HD.out] at this; exact this
          clear HH HD h1
          rcases Nat.eq_zero_or_pos q with hq0 | hq0
          · subst hq0
            have hcz : ∀ W : World, (convert 57 9 (.slice (some ⟨W.heap.size, 0, none⟩) 1 1)).run Tryd.prog (W.alloc (.cells #[.int .u8 48] 5)) = .ok (.string ⟨[D].toArray⟩) (W.alloc (.cells #[.int .u8 48] 5)) := fun W => hcv W
            have pz := Pair.next hp (Below.alloc (Below.refl wr.heap.size wr) (Nat.le_refl _) (.cells #[.int .u8 48] 5))
            have bz := Below.alloc hB hB.size (.cells #[.int .u8 48] 5)
            clear hcv
            go_wp2
            go_roundg (20 - (0 + 1))
            case measure => omega
            case rel => exact ⟨0 + 1, 0, D :: l, rfl, by omega, by omega, by simp, by rw [cat]; rfl, by go_num, pz, bz, by simp; omega, HM⟩
          · have hq1 : (0 : Int) < (q : Int) := by omega
            go_wp2
            go_roundg (20 - (0 + 1))
            case measure => omega
            case rel => exact ⟨0 + 1, q / 10, D :: l, rfl, by omega, by omega, by simp, by rw [cat]; rfl, by go_num, pn, bn, by simp; omega, HM⟩
        · have HM : Hid (Made a i (i + 1) (q / 10) (D :: 46 :: l)) := by have := HH.out.at h3 hsh; rw [← HD.out] at this; exact this
          clear HH HD h1
          have hi0 : (0 : Int) < (i : Int) := by omega
          have hi1 : 0 < i := by omega
          rcases Nat.eq_zero_or_pos q with hq0 | hq0
          · subst hq0
            have hcz : ∀ W : World, (convert 57 9 (.slice (some ⟨W.heap.size, 0, none⟩) 1 1)).run Tryd.prog (W.alloc (.cells #[.int .u8 48] 5)) = .ok (.string ⟨[D].toArray⟩) (W.alloc (.cells #[.int .u8 48] 5)) := fun W => hcv W
            have pz := Pair.next hp (Below.alloc (Below.refl wr.heap.size wr) (Nat.le_refl _) (.cells #[.int .u8 48] 5))
            have bz := Below.alloc hB hB.size (.cells #[.int .u8 48] 5)
            clear hcv
            go_wp2
            go_roundg (20 - (i + 1))
            case measure => omega
            case rel => exact ⟨i + 1, 0, D :: 46 :: l, rfl, by omega, by omega, by simp, by rw [show (⟨#[46]⟩ : ByteArray) = ⟨[(46 : UInt8)].toArray⟩ from rfl, cat, cat]; rfl, by go_num, pz, bz, by simp; omega, HM⟩
          · have hq1 : (0 : Int) < (q : Int) := by omega
            go_wp2
            go_roundg (20 - (i + 1))
            case measure => omega
            case rel => exact ⟨i + 1, q / 10, D :: 46 :: l, rfl, by omega, by omega, by simp, by rw [show (⟨#[46]⟩ : ByteArray) = ⟨[(46 : UInt8)].toArray⟩ from rfl, cat, cat]; rfl, by go_num, pn, bn, by simp; omega, HM⟩
      · have h2' : ((i : Int) == (s : Int)) = false := beq_eq_false_iff_ne.2 (by omega)
        by_cases h3 : 0 < q
        · have HM : Hid (Made a s (i + 1) (q / 10) (D :: l)) := by have := HH.out.high (by omega) h3; rw [← HD.out] at this; exact this
          clear HH HD
          go_wp2
          go_roundg (20 - (i + 1))
          case measure => omega
          case rel => exact ⟨i + 1, q / 10, D :: l, rfl, by omega, by omega, by simp, by rw [cat]; rfl, by go_num, pn, bn, by simp; omega, HM⟩
        · obtain rfl : q = 0 := by omega
          have HE : Hid (l = printA a s) := by
            rw [HH.out.2.1]; exact made_all (by omega) HH.out.1.symm HH.out.2.2.1
          clear HH HD
          go_wp2
          go_ret
          refine ⟨?_, hB⟩
          rw [HP.out, ← HE.out]
          exact congrArg (fun x => Ending.returned (.string x)) (cat [45] l)
theorem Tryd.rPrint_any (m : Int) (s : Nat) (hx : mayB m s = true) (w : World) :
    Calls Tryd.prog 17 #[.agg #[.int .i64 m, .int .i64 (s : Int)]] w fun e w' => e = .returned (.string ⟨(printN m s).toArray⟩) ∧ Below w.heap.size w w' := by
  obtain ⟨a1, a2, a3, a4⟩ := mayB_of hx
  by_cases h : m < 0
  · obtain ⟨a, rfl⟩ : ∃ a : Nat, m = -(a : Int) := ⟨(-m).toNat, by omega⟩
    exact Tryd.rPrint_neg a s (by omega) (by omega) (by omega) w
  · obtain ⟨a, rfl⟩ : ∃ a : Nat, m = (a : Int) := ⟨m.toNat, by omega⟩
    exact Tryd.rPrint_pos a s (by omega) (by omega) w
#print axioms Tryd.rPrint_any
end Go.Proofs
