/- layout.Unpack and layout.Pack of this program, at any numbers and any slice of ints. Conditions: at most two million numbers. -/
import Derived.Test.YtipajbcamdcnkaaDoorLayoutSpread
import Derived.Test.YtipajbcamdcnkaaDoorLayoutEqual
import Derived.Test.YtipajbcamdcnkaaDoorLayoutUnpackAll
namespace Go.Layout
/-- May a matrix be told in a layout? -/
def fitsB (k n : Nat) (m : List Int) : Bool := (pairs n).all fun p => !bad k n m p.1 p.2
theorem fitsB_iff {k n : Nat} {m : List Int} : fitsB k n m = true ↔ fits k n m := by
  unfold fitsB fits
  rw [List.all_eq_true]
  constructor
  · intro h i j hi hj
    have := h (i, j) (mem_pairs.2 ⟨hi, hj⟩)
    simpa using this
  · rintro h ⟨i, j⟩ hp
    have := mem_pairs.1 hp
    simp [h i j this.1 this.2]
/-- layout.Pack. -/
def packE (k n : Int) (m : List Int) : List Int × Int :=
  if mayB k n = false then ([], 1) else if m.length = n.toNat * n.toNat ∧ fitsB k.toNat n.toNat m = true then (pack k.toNat n.toNat m, 0) else ([], 70)
theorem packE_arg {k n : Int} {m : List Int} (h : mayB k n = false) : packE k n m = ([], 1) := by unfold packE; rw [if_pos h]
theorem packE_ok {k n : Nat} {m : List Int} (h : mayB k n = true) (hl : m.length = n * n) (hf : fits k n m) : packE k n m = (pack k n m, 0) := by
  unfold packE; rw [if_neg (by rw [h]; simp), if_pos ⟨by simpa using hl, by simpa using fitsB_iff.2 hf⟩]; simp
theorem packE_len {k n : Nat} {m : List Int} (h : mayB k n = true) (hl : ¬ m.length = n * n) : packE k n m = ([], 70) := by
  unfold packE; rw [if_neg (by rw [h]; simp), if_neg (fun q => hl (by simpa using q.1))]
theorem packE_no {k n : Nat} {m : List Int} (h : mayB k n = true) (hf : ¬ fits k n m) : packE k n m = ([], 70) := by
  unfold packE; rw [if_neg (by rw [h]; simp), if_neg (fun q => hf (fitsB_iff.1 (by simpa using q.2)))]
end Go.Layout
namespace Go.Proofs
open Go.RowKit Go.Shelf Go.Layout
attribute [local go_sem] Oper.semAt_some

theorem HasInts.dat {W : World} {v : Value} {l : List Int} (h : HasInts W v l) : ∃ ao cap, v = .slice ao l.length cap ∧ (l = [] ∨ ∃ b0 off, ao = some ⟨b0, off, none⟩ ∧ IntAt W b0 off l) := by
  rcases h with ⟨rfl, ao, cap, rfl⟩ | ⟨b, off, cap, rfl, _, _, hd⟩
  · exact ⟨ao, cap, rfl, .inl rfl⟩
  · exact ⟨_, cap, rfl, .inr ⟨b, off, rfl, hd⟩⟩

set_option maxRecDepth 100000 in
theorem Tryd.Unpack_arg (k n : Int) (ao : Option Addr) (m cap : Nat) (w : World) (h : mayB k n = false) :
    Calls Tryd.prog 18 #[.int .i64 k, .int .i64 n, .slice ao m cap] w fun e w' => e = .returned (.tuple #[.slice none 0 0, .int .i64 1]) ∧ w' = w := by
  have M := fun (w : World) => Tryd.may_calls k n w
  rw [h] at M
  go_enter Tryd.func18, Tryd.ntmps18
  go_wp2_with (go_at_call 23; (with_reducible refine (M _).mono ?_); rintro e w2 ⟨rfl, hw2⟩; obtain rfl : w = w2 := hw2.symm)
  go_ret2
  exact ⟨rfl, rfl⟩
set_option maxRecDepth 100000 in
theorem Tryd.Unpack_len (k n m cap : Nat) (ao : Option Addr) (w : World) (hk : 1 ≤ k) (hk7 : k ≤ 7) (hn : 1 ≤ n) (hn4 : n ≤ 400) (h : m ≠ count k n) :
    Calls Tryd.prog 18 #[.int .i64 (k : Int), .int .i64 (n : Int), .slice ao m cap] w fun e w' => e = .returned (.tuple #[.slice none 0 0, .int .i64 70]) ∧ Below w.heap.size w w' := by
  have M := fun (w : World) => Tryd.may_calls k n w
  rw [mayB_nat hk hk7 hn hn4] at M
  have C := fun (w : World) => Tryd.Count_in k n w hk hk7 hn hn4
  generalize count k n = c at C h
  have d : ((m : Int) != (c : Int)) = true := bne_iff_ne.2 (by omega)
  go_enter Tryd.func18, Tryd.ntmps18
  go_wp2_with (first
    | (go_at_call 23; (with_reducible refine (M _).mono ?_); rintro e w2 ⟨rfl, hw2⟩; obtain rfl : w = w2 := hw2.symm)
    | (go_at_call 10; (with_reducible refine (C _).mono ?_); rintro e w3 ⟨rfl, hb3⟩))
  go_ret2
  exact ⟨rfl, hb3⟩
set_option maxRecDepth 100000 in
theorem Tryd.Unpack_in (k n cap : Nat) (ao : Option Addr) (l : List Int) (w : World) (hk : 1 ≤ k) (hk7 : k ≤ 7) (hn : 1 ≤ n) (hn4 : n ≤ 400) (hl : l.length = count k n) (hd : l = [] ∨ ∃ b0 off, ao = some ⟨b0, off, none⟩ ∧ IntAt w b0 off l) :
    Calls Tryd.prog 18 #[.int .i64 (k : Int), .int .i64 (n : Int), .slice ao l.length cap] w fun e w' => ∃ v', e = .returned (.tuple #[v', .int .i64 0]) ∧ HasInts w' v' (unpack k n l) ∧ Below w.heap.size w w' := by
  have M := fun (w : World) => Tryd.may_calls k n w
  rw [mayB_nat hk hk7 hn hn4] at M
  have C := fun (w : World) => Tryd.Count_in k n w hk hk7 hn hn4
  rw [← hl] at C
  have hS : ∀ w1 : World, Below w.heap.size w w1 → Calls Tryd.prog 31 #[.int .i64 (k : Int), .int .i64 (n : Int), .slice ao l.length cap] w1 fun e w' => ∃ v, e = .returned v ∧ HasInts w' v (unpack k n l) ∧ Below w1.heap.size w1 w' :=
    fun w1 hb => Tryd.spread_calls k n ao cap l w1 hk hk7 hn4 hl (hd.imp id fun ⟨b0, off, h1, h2⟩ => ⟨b0, off, h1, h2.next hb⟩)
  have HS := Lib.hid hS
  obtain ⟨q, hq⟩ : ∃ q, l.length = q := ⟨_, rfl⟩
  rw [hq] at C hS HS ⊢
  clear hS hd hl hq
  go_enter Tryd.func18, Tryd.ntmps18
  go_wp2_with (first
    | (go_at_call 23; (with_reducible refine (M _).mono ?_); rintro e w2 ⟨rfl, hw2⟩; obtain rfl : w = w2 := hw2.symm)
    | (go_at_call 10; (with_reducible refine (C _).mono ?_); rintro e w3 ⟨rfl, hb3⟩)
    | (go_at_call 31; (with_reducible refine (HS.out _ hb3).mono ?_); rintro e w4 ⟨v, rfl, hv, hb4⟩))
  go_ret2
  exact ⟨_, rfl, hv, hb3.trans (hb4.mono hb3.size)⟩
theorem Tryd.Unpack_calls (k n : Int) (v : Value) (l : List Int) (w : World) (hv : HasInts w v l) :
    Calls Tryd.prog 18 #[.int .i64 k, .int .i64 n, v] w fun e w' => ∃ v', e = .returned (.tuple #[v', .int .i64 (unpackE k n l).2]) ∧ HasInts w' v' (unpackE k n l).1 ∧ Below w.heap.size w w' := by
  obtain ⟨ao, cap, rfl, hd⟩ := hv.dat
  cases hm : mayB k n with
  | false =>
    rw [unpackE_arg hm]
    exact (Tryd.Unpack_arg k n ao _ cap w hm).mono fun e w' ⟨h1, h2⟩ => ⟨_, h1, HasInts.nil _, h2 ▸ Below.refl _ _⟩
  | true =>
    have hb := mayB_true hm
    obtain ⟨k, rfl⟩ := nat_in (show 0 ≤ k by omega)
    obtain ⟨n, rfl⟩ := nat_in (show 0 ≤ n by omega)
    by_cases hl : l.length = count k n
    · rw [unpackE_ok hm hl]
      exact Tryd.Unpack_in k n cap ao l w (by omega) (by omega) (by omega) (by omega) hl hd
    · rw [unpackE_len hm hl]
      exact (Tryd.Unpack_len k n _ cap ao w (by omega) (by omega) (by omega) (by omega) hl).mono fun e w' ⟨h1, h2⟩ => ⟨_, h1, HasInts.nil _, h2⟩
set_option maxRecDepth 100000 in
theorem Tryd.Pack_arg (k n : Int) (ao : Option Addr) (m cap : Nat) (w : World) (h : mayB k n = false) :
    Calls Tryd.prog 21 #[.int .i64 k, .int .i64 n, .slice ao m cap] w fun e w' => e = .returned (.tuple #[.slice none 0 0, .int .i64 1]) ∧ w' = w := by
  have M := fun (w : World) => Tryd.may_calls k n w
  rw [h] at M
  go_enter Tryd.func21, Tryd.ntmps21
  go_wp2_with (go_at_call 23; (with_reducible refine (M _).mono ?_); rintro e w2 ⟨rfl, hw2⟩; obtain rfl : w = w2 := hw2.symm)
  go_ret2
  exact ⟨rfl, rfl⟩
set_option maxRecDepth 100000 in
theorem Tryd.Pack_len (k n m cap : Nat) (ao : Option Addr) (w : World) (hk : 1 ≤ k) (hk7 : k ≤ 7) (hn : 1 ≤ n) (hn4 : n ≤ 400) (h : m ≠ n * n) :
    Calls Tryd.prog 21 #[.int .i64 (k : Int), .int .i64 (n : Int), .slice ao m cap] w fun e w' => e = .returned (.tuple #[.slice none 0 0, .int .i64 70]) ∧ w' = w := by
  have M := fun (w : World) => Tryd.may_calls k n w
  rw [mayB_nat hk hk7 hn hn4] at M
  have h1 : n * n ≤ 160000 := Nat.mul_le_mul hn4 hn4
  have w1 : wrap64 ((n : Int) * (n : Int)) = ((n * n : Nat) : Int) := by rw [show (n : Int) * (n : Int) = ((n * n : Nat) : Int) by simp]; unfold wrap64; omega
  generalize n * n = N at w1 h h1
  have d : ((m : Int) != (N : Int)) = true := bne_iff_ne.2 (by omega)
  go_enter Tryd.func21, Tryd.ntmps21
  go_wp2_with (go_at_call 23; (with_reducible refine (M _).mono ?_); rintro e w2 ⟨rfl, hw2⟩; obtain rfl : w = w2 := hw2.symm)
  go_ret2
  exact ⟨rfl, rfl⟩
set_option maxRecDepth 100000 in
theorem Tryd.Pack_in (k n b0 off cap : Nat) (m : List Int) (w : World) (hk : 1 ≤ k) (hk7 : k ≤ 7) (hn : 1 ≤ n) (hn4 : n ≤ 400) (hm : m.length = n * n) (hmc : m.length ≤ cap) (hcm : cap ≤ maxLen) (hd : IntAt w b0 off m) :
    Calls Tryd.prog 21 #[.int .i64 (k : Int), .int .i64 (n : Int), .slice (some ⟨b0, off, none⟩) m.length cap] w fun e w' => (fits k n m → ∃ v', e = .returned (.tuple #[v', .int .i64 0]) ∧ HasInts w' v' (pack k n m)) ∧ (¬ fits k n m → e = .returned (.tuple #[.slice none 0 0, .int .i64 70])) ∧ Below w.heap.size w w' := by
  have M := fun (w : World) => Tryd.may_calls k n w
  rw [mayB_nat hk hk7 hn hn4] at M
  have hG := Tryd.gather_calls k n b0 off cap m w hk hk7 hn4 hm hd
  have hgl : (gath k n m).length = count k n := by
    unfold gath; rw [List.length_map, steps_length, rowsUp_count hk hk7]
  have hS := fun (ao : Option Addr) (c1 : Nat) (w1 : World) (h : gath k n m = [] ∨ ∃ b0 off, ao = some ⟨b0, off, none⟩ ∧ IntAt w1 b0 off (gath k n m)) => Tryd.spread_calls k n ao c1 (gath k n m) w1 hk hk7 hn4 hgl h
  have hul : (unpack k n (gath k n m)).length ≤ 2000000 := by
    rw [unpack, grid_length]; have : n * n ≤ 400 * 400 := Nat.mul_le_mul hn4 hn4; omega
  have hbk := back_fits (k := k) (n := n) (m := m) hk hk7 hm
  have hE := fun (v u : Value) (w1 : World) (h1 : HasInts w1 v (unpack k n (gath k n m))) (h2 : HasInts w1 u m) => Tryd.Equal_calls v u (unpack k n (gath k n m)) m w1 hul h1 h2
  have hgp := fun h => gath_pack (k := k) (n := n) (m := m) h
  have h1 : n * n ≤ 160000 := Nat.mul_le_mul hn4 hn4
  have w1 : wrap64 ((n : Int) * (n : Int)) = ((n * n : Nat) : Int) := by rw [show (n : Int) * (n : Int) = ((n * n : Nat) : Int) by simp]; unfold wrap64; omega
  have hmI : HasInts w (.slice (some ⟨b0, off, none⟩) m.length cap) m := .inr ⟨b0, off, cap, rfl, hmc, hcm, hd⟩
  have HMI := Lib.hid hmI
  rw [← hm] at w1 h1
  obtain ⟨N, hN⟩ : ∃ N, m.length = N := ⟨_, rfl⟩
  rw [hN] at w1 h1 hG HMI ⊢
  have HG := Lib.hid hG
  have HS := Lib.hid hS
  have HE := Lib.hid hE
  have HB := Lib.hid hbk
  have HP := Lib.hid hgp
  clear hG hS hE hbk hgp hul hgl hm hmI hN hd hmc hcm
  cases hf : fitsB k n m with
  | true =>
    have hfit := fitsB_iff.1 hf
    have hdec : decide (unpack k n (gath k n m) = m) = true := decide_eq_true (HB.out.2 hfit)
    have HD := Lib.hid hdec
    have HF := Lib.hid hfit
    clear hdec hfit hf
    go_enter Tryd.func21, Tryd.ntmps21
    go_wp2_with (go_at_call 23; (with_reducible refine (M _).mono ?_); rintro e w2 ⟨rfl, hw2⟩; obtain rfl : w = w2 := hw2.symm)
    refine HG.out.mono ?_
    rintro e w3 ⟨v1, rfl, hv1, hb3⟩
    have HV1 := Lib.hid hv1
    obtain ⟨ao1, c1, rfl, hd1⟩ := hv1.dat
    have HD1 := Lib.hid hd1
    clear hv1 hd1
    go_wp2_with (fail)
    refine (HS.out _ _ _ HD1.out).mono ?_
    rintro e w4 ⟨v2, rfl, hv2, hb4⟩
    have HV2 := Lib.hid hv2
    clear hv2
    go_wp2_with (fail)
    refine (HE.out _ _ _ HV2.out (HMI.out.next (hb3.trans (hb4.mono hb3.size)))).mono ?_
    rintro e w5 ⟨rfl, hb5⟩
    rw [HD.out]
    go_wp2
    go_ret2
    refine ⟨fun _ => ⟨_, rfl, ?_⟩, fun h => absurd HF.out h, (hb3.trans (hb4.mono hb3.size)).trans (hb5.mono (Nat.le_trans hb3.size hb4.size))⟩
    rw [← HP.out HF.out]
    exact (HV1.out.next hb4).next hb5
  | false =>
    have hfit : ¬ fits k n m := fun h => by rw [fitsB_iff.2 h] at hf; cases hf
    have hdec : decide (unpack k n (gath k n m) = m) = false := decide_eq_false fun h => hfit (HB.out.1 h)
    have HD := Lib.hid hdec
    have HF := Lib.hid hfit
    clear hdec hfit hf
    go_enter Tryd.func21, Tryd.ntmps21
    go_wp2_with (go_at_call 23; (with_reducible refine (M _).mono ?_); rintro e w2 ⟨rfl, hw2⟩; obtain rfl : w = w2 := hw2.symm)
    refine HG.out.mono ?_
    rintro e w3 ⟨v1, rfl, hv1, hb3⟩
    obtain ⟨ao1, c1, rfl, hd1⟩ := hv1.dat
    have HD1 := Lib.hid hd1
    clear hv1 hd1
    go_wp2_with (fail)
    refine (HS.out _ _ _ HD1.out).mono ?_
    rintro e w4 ⟨v2, rfl, hv2, hb4⟩
    have HV2 := Lib.hid hv2
    clear hv2
    go_wp2_with (fail)
    refine (HE.out _ _ _ HV2.out (HMI.out.next (hb3.trans (hb4.mono hb3.size)))).mono ?_
    rintro e w5 ⟨rfl, hb5⟩
    rw [HD.out]
    go_wp2
    go_ret2
    exact ⟨fun h => absurd h HF.out, fun _ => rfl, (hb3.trans (hb4.mono hb3.size)).trans (hb5.mono (Nat.le_trans hb3.size hb4.size))⟩
theorem Tryd.Pack_calls (k n : Int) (v : Value) (m : List Int) (w : World) (hv : HasInts w v m) :
    Calls Tryd.prog 21 #[.int .i64 k, .int .i64 n, v] w fun e w' => ∃ v', e = .returned (.tuple #[v', .int .i64 (packE k n m).2]) ∧ HasInts w' v' (packE k n m).1 ∧ Below w.heap.size w w' := by
  cases hm : mayB k n with
  | false =>
    obtain ⟨ao, cap, rfl, hd⟩ := hv.dat
    rw [packE_arg hm]
    exact (Tryd.Pack_arg k n ao _ cap w hm).mono fun e w' ⟨h1, h2⟩ => ⟨_, h1, HasInts.nil _, h2 ▸ Below.refl _ _⟩
  | true =>
    have hb := mayB_true hm
    obtain ⟨k, rfl⟩ := nat_in (show 0 ≤ k by omega)
    obtain ⟨n, rfl⟩ := nat_in (show 0 ≤ n by omega)
    by_cases hl : m.length = n * n
    · have hpos : 0 < n * n := Nat.mul_pos (by omega) (by omega)
      rcases hv with ⟨rfl, ao, cap, rfl⟩ | ⟨b, off, cap, rfl, h1, h2, hd⟩
      · simp at hl; omega
      · refine (Tryd.Pack_in k n b off cap m w (by omega) (by omega) (by omega) (by omega) hl h1 h2 hd).mono ?_
        rintro e w' ⟨hy, hno, hB⟩
        by_cases hf : fits k n m
        · rw [packE_ok hm hl hf]
          obtain ⟨v', h3, h4⟩ := hy hf
          exact ⟨v', h3, h4, hB⟩
        · rw [packE_no hm hf]
          exact ⟨_, hno hf, HasInts.nil _, hB⟩
    · obtain ⟨ao, cap, rfl, hd⟩ := hv.dat
      rw [packE_len hm hl]
      exact (Tryd.Pack_len k n _ cap ao w (by omega) (by omega) (by omega) (by omega) hl).mono fun e w' ⟨h1, h2⟩ => ⟨_, h1, HasInts.nil _, h2 ▸ Below.refl _ _⟩
#print axioms Tryd.Pack_calls
#print axioms Tryd.Unpack_calls
end Go.Proofs
