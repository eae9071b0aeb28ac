/- The document's Read, at every text of at most 1000000 bytes. -/
import Derived.Test.YtfhjndldiggchaaDoorRRead
namespace Go.Fx
/-- The document's Read. -/
def readR (l : List UInt8) : Int × Nat × Int := readT (sgn l) (tailIf 45 l)
theorem digR_len {l : List UInt8} {k : Nat} {n : Int} (h : digR l k = (n, true)) : l.length ≤ k := by
  unfold digR at h
  split at h
  · rename_i hd; exact hd.2.1
  · cases h
theorem digR_val {l : List UInt8} {k : Nat} {n : Int} {b : Bool} (h : digR l k = (n, b)) : 0 ≤ n ∧ n < ((10 ^ k : Nat) : Int) := by
  have := digR_bd l (k := k)
  rw [h] at this
  exact this
end Go.Fx
namespace Go.Proofs
open Go.RowKit Go.Fx

theorem Tryd.rRead_head (s T : ByteArray) (g : Int) (hH : Head s T g) (hg : g = 1 ∨ g = -1) (hs : s.size ≤ 1000000) (hT : T.size ≤ 1000000) (w : World) :
    Calls Tryd.prog 14 #[.string s] w fun e w' => e = .returned (.tuple #[.agg #[.int .i64 (readT g T.data.toList).1, .int .i64 ((readT g T.data.toList).2.1 : Int)], .int .i64 (readT g T.data.toList).2.2]) ∧ Below w.heap.size w w' := by
  obtain ⟨p, hp⟩ : ∃ p, p = pt T.data.toList 0 := ⟨_, rfl⟩
  have hpl := pt_le (l := T.data.toList) (k := 0) (by omega)
  have hlen : T.data.toList.length = T.size := Array.length_toList
  rw [← hp, hlen] at hpl
  obtain ⟨n1, b1, hd1⟩ : ∃ n1 b1, digR (T.data.toList.take p) 12 = (n1, b1) := ⟨_, _, rfl⟩
  have hn1 := digR_val hd1
  simp only [Nat.reducePow] at hn1
  have G1 : Dgs (T.extract 0 p) 12 n1 b1 := dgs_of _ 12 (by omega) (by rw [ByteArray.size_extract]; omega) (by rw [Lib.extract_data]; simpa using hd1)
  have HP : Hid (p = pt T.data.toList 0) := hp
  unfold readT
  rw [← hp, hd1]
  cases b1 with
  | false => exact Tryd.rRead_none s T g hH hs hT p HP hpl n1 G1 w
  | true =>
    simp only [if_true]
    by_cases hps : p < T.size
    · rw [if_pos (by rw [hlen]; exact hps)]
      obtain ⟨n2, b2, hd2⟩ : ∃ n2 b2, digR (T.data.toList.drop (p + 1)) 6 = (n2, b2) := ⟨_, _, rfl⟩
      have hn2 := digR_val hd2
      simp only [Nat.reducePow] at hn2
      have G2 : Dgs (T.extract (p + 1) T.size) 6 n2 b2 := dgs_of _ 6 (by omega) (by rw [ByteArray.size_extract]; omega) (by rw [Lib.extract_data]; simpa [List.take_of_length_le] using hd2)
      rw [hd2]
      cases b2 with
      | false => exact Tryd.rRead_tail s T g hH hs hT p HP hpl n1 G1 hps n2 G2 w
      | true =>
        simp only [if_true]
        have hl6 := digR_len hd2
        rw [List.length_drop, hlen] at hl6
        obtain ⟨q, hq⟩ : ∃ q : Nat, q = T.size - p - 1 := ⟨_, rfl⟩
        have hqi : (T.size : Int) - (p : Int) - 1 = (q : Int) := by omega
        have hqn : T.data.toList.length - p - 1 = q := by rw [hlen]; exact hq.symm
        have hp10 := p10_pos (q : Int)
        have hp11 := p10_le (x := (q : Int)) (k := 6) (by omega)
        simp only [Nat.reducePow] at hp11
        have hYb := mul_bd (m := n1) (t := p10 (q : Int)) (M := 999999999999) (T := 1000000) (by omega) (by omega) (by omega) (by omega) (by omega)
        have hY0 : 0 ≤ n1 * p10 (q : Int) := Int.mul_nonneg hn1.1 (by omega)
        obtain ⟨Y, hY⟩ : ∃ Y, Y = n1 * p10 (q : Int) := ⟨_, rfl⟩
        rw [← hY] at hYb hY0
        have hX : wrap64 (g * (Y + n2)) = g * (Y + n2) ∧ -1000000000000000000 ≤ g * (Y + n2) ∧ g * (Y + n2) ≤ 1000000000000000000 := by
          rcases hg with e | e <;> rw [e] <;> refine ⟨?_, ?_, ?_⟩ <;> (try unfold wrap64) <;> omega
        obtain ⟨X, hXe⟩ : ∃ X, X = g * (Y + n2) := ⟨_, rfl⟩
        rw [← hXe] at hX
        rw [hqn, hlen, hqi, ← hY, ← hXe]
        obtain ⟨x, y, hL⟩ : ∃ x y, least q X = (x, y) := ⟨_, _, rfl⟩
        have GL : Hid (∀ W, Calls Tryd.prog 19 #[.agg #[.int .i64 X, .int .i64 ((T.size : Int) - (p : Int) - 1)]] W fun e w' => e = .returned (.agg #[.int .i64 x, .int .i64 (y : Int)]) ∧ Below W.heap.size W w') := by
          intro W
          have := Tryd.rLeast_any X q (by omega) (by omega) (by omega) W
          rwa [hL, ← hqi] at this
        have hYw : wrap64 (n1 * p10 ((T.size : Int) - (p : Int) - 1)) = Y := by rw [hqi, ← hY]; unfold wrap64; omega
        have hXw : wrap64 (g * (Y + n2)) = X := by rw [← hXe]; exact hX.1
        rw [hL]
        unfold chkL
        by_cases hf : fitB x = true
        · rw [if_pos hf]
          exact Tryd.rRead_point_fit s T g hH hs hT p HP hpl n1 G1 hps n2 G2 (by omega) (by omega) X Y (by omega) hYw hXw x y GL (fitB_of hf) w
        · rw [if_neg hf]
          rcases fitB_not hf with hx | hx
          · exact Tryd.rRead_point_low s T g hH hs hT p HP hpl n1 G1 hps n2 G2 (by omega) (by omega) X Y (by omega) hYw hXw x y GL hx w
          · exact Tryd.rRead_point_high s T g hH hs hT p HP hpl n1 G1 hps n2 G2 (by omega) (by omega) X Y (by omega) hYw hXw x y GL hx w
    · rw [if_neg (by rw [hlen]; exact hps)]
      have hpe : p = T.size := by omega
      have hX : wrap64 (g * n1) = g * n1 ∧ -1000000000000 ≤ g * n1 ∧ g * n1 ≤ 1000000000000 := by
        rcases hg with e | e <;> rw [e] <;> refine ⟨?_, ?_, ?_⟩ <;> (try unfold wrap64) <;> omega
      obtain ⟨X, hXe⟩ : ∃ X, X = g * n1 := ⟨_, rfl⟩
      rw [← hXe] at hX ⊢
      obtain ⟨x, y, hL⟩ : ∃ x y, least 0 X = (x, y) := ⟨_, _, rfl⟩
      have GL : Hid (∀ W, Calls Tryd.prog 19 #[.agg #[.int .i64 X, .int .i64 0]] W fun e w' => e = .returned (.agg #[.int .i64 x, .int .i64 (y : Int)]) ∧ Below W.heap.size W w') := by
        intro W
        have := Tryd.rLeast_any X 0 (by omega) (by omega) (by omega) W
        rwa [hL] at this
      have hXw : wrap64 (g * n1) = X := by rw [← hXe]; exact hX.1
      rw [hL]
      unfold chkL
      by_cases hf : fitB x = true
      · rw [if_pos hf]
        exact Tryd.rRead_whole_fit s T g hH hs hT p HP hpl hpe n1 G1 X hXw x y GL (fitB_of hf) w
      · rw [if_neg hf]
        rcases fitB_not hf with hx | hx
        · exact Tryd.rRead_whole_low s T g hH hs hT p HP hpl hpe n1 G1 X hXw x y GL hx w
        · exact Tryd.rRead_whole_high s T g hH hs hT p HP hpl hpe n1 G1 X hXw x y GL hx w
theorem Tryd.rRead_any (s : ByteArray) (hs : s.size ≤ 1000000) (w : World) :
    Calls Tryd.prog 14 #[.string s] w fun e w' => e = .returned (.tuple #[.agg #[.int .i64 (readR s.data.toList).1, .int .i64 ((readR s.data.toList).2.1 : Int)], .int .i64 (readR s.data.toList).2.2]) ∧ Below w.heap.size w w' := by
  unfold readR
  by_cases h0 : 0 < s.size
  · by_cases hm : s[0] = 45
    · obtain ⟨e1, e2⟩ := head_minus s h0 hm
      rw [e1, e2]
      exact Tryd.rRead_head s _ (-1) (.inl ⟨h0, hm, rfl, rfl⟩) (.inr rfl) hs (by rw [ByteArray.size_extract]; omega) w
    · obtain ⟨e1, e2⟩ := head_other s h0 hm
      rw [e1, e2]
      exact Tryd.rRead_head s s 1 (.inr (.inl ⟨h0, hm, rfl, rfl⟩)) (.inl rfl) hs hs w
  · have hz : s = ⟨#[]⟩ := by
      apply ByteArray.ext
      have h1 : s.data.size = 0 := by show s.size = 0; omega
      exact Array.eq_empty_of_size_eq_zero h1
    subst hz
    exact Tryd.rRead_head ⟨#[]⟩ ⟨#[]⟩ 1 (.inr (.inr ⟨rfl, rfl, rfl⟩)) (.inl rfl) (by decide) (by decide) w
#print axioms Tryd.rRead_any
end Go.Proofs
