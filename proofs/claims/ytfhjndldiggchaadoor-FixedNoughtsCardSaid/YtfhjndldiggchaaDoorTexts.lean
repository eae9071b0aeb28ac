/- Plain facts on the texts of numbers: what is printed is read back. No program. -/
import Derived.Test.YtfhjndldiggchaaDoorSame
import Derived.Test.YtfhjndldiggchaaDoorPrint
import Derived.Test.YtfhjndldiggchaaDoorScale
namespace Go.Fx
open Go.Proofs
theorem dec_small {u : Nat} (h : u < 10) : Lib.decDigits u = [UInt8.ofNat (48 + u)] := Lib.decDigits_one h
theorem dec_big {u : Nat} (h : ¬ u < 10) : Lib.decDigits u = Lib.decDigits (u / 10) ++ [UInt8.ofNat (48 + u % 10)] := by
  rw [Lib.decDigits, dif_neg h]
theorem byte_of {d : Nat} (h : d < 10) : (UInt8.ofNat (48 + d)).toNat = 48 + d := by
  rw [UInt8.toNat_ofNat']; omega
theorem dg_byte {d : Nat} (h : d < 10) : dg (UInt8.ofNat (48 + d)) = true := by
  unfold dg; rw [byte_of h]; exact digB_yes (by omega) (by omega)
theorem dec_all (u : Nat) : (Lib.decDigits u).all dg = true := by
  induction u using Nat.strongRecOn with
  | ind u ih =>
    by_cases h : u < 10
    · rw [dec_small h, List.all_cons, dg_byte h]; rfl
    · rw [dec_big h, List.all_append, ih (u / 10) (by omega), List.all_cons, dg_byte (show u % 10 < 10 by omega)]
      rfl
theorem dec_val (u : Nat) : valF 0 (Lib.decDigits u) = (u : Int) := by
  induction u using Nat.strongRecOn with
  | ind u ih =>
    by_cases h : u < 10
    · rw [dec_small h]; simp only [valF, List.foldl_cons, List.foldl_nil]; rw [byte_of h]; omega
    · rw [dec_big h, valF_snoc, ih (u / 10) (by omega), byte_of (show u % 10 < 10 by omega)]; omega
theorem dec_short {u k : Nat} (hk : 1 ≤ k) (h : u < 10 ^ k) : (Lib.decDigits u).length ≤ k := by
  induction k generalizing u with
  | zero => omega
  | succ k ih =>
    by_cases hu : u < 10
    · rw [dec_small hu]; simp
    · rw [dec_big hu]
      have hk1 : 1 ≤ k := by
        rcases Nat.eq_zero_or_pos k with rfl | h'
        · simp at h; omega
        · exact h'
      rw [Nat.pow_succ] at h
      have := ih hk1 (u := u / 10) (by omega)
      simp; omega
theorem dec_ne (u : Nat) : 1 ≤ (Lib.decDigits u).length := by
  by_cases h : u < 10
  · rw [dec_small h]; simp
  · rw [dec_big h]; simp
theorem dec_head (u : Nat) (r : List UInt8) : headB 45 (Lib.decDigits u ++ r) = false := by
  have h1 := dec_ne u
  have h2 := dec_all u
  cases h : Lib.decDigits u with
  | nil => rw [h] at h1; simp at h1
  | cons c x =>
    rw [h] at h2
    simp only [List.all_cons, Bool.and_eq_true] at h2
    simp only [List.cons_append, headB]
    have := dg_bd h2.1
    rw [beq_eq_false_iff_ne]
    intro e; subst e
    simp at this
/-- The places behind the point. -/
def plac (a s : Nat) : List UInt8 := (Lib.decDigits (10 ^ s + a % 10 ^ s)).drop 1
theorem plac_spec (a s : Nat) : (plac a s).length = s ∧ (plac a s).all dg = true ∧ valF 0 (plac a s) = ((a % 10 ^ s : Nat) : Int) := by
  unfold plac
  have hT : 0 < 10 ^ s := Nat.pow_pos (by omega)
  have hr : a % 10 ^ s < 10 ^ s := Nat.mod_lt _ hT
  generalize a % 10 ^ s = r at hr ⊢
  have hl : (Lib.decDigits (10 ^ s + r)).length = s + 1 := by
    rw [Lib.decDigits_length]
    exact Lib.nDigits_unique s _ (by omega) (by rw [Nat.pow_succ]; omega)
  have ha := dec_all (10 ^ s + r)
  have hv := dec_val (10 ^ s + r)
  generalize Lib.decDigits (10 ^ s + r) = X at hl ha hv ⊢
  cases X with
  | nil => simp at hl
  | cons c E =>
    simp only [List.length_cons, Nat.add_right_cancel_iff] at hl
    simp only [List.all_cons, Bool.and_eq_true] at ha
    simp only [List.drop_succ_cons, List.drop_zero]
    refine ⟨hl, ha.2, ?_⟩
    have e1 : valF 0 (c :: E) = valF (10 * 0 + ((c.toNat : Int) - 48)) E := rfl
    rw [e1, valF_split, hl, p10_nat] at hv
    have hb := valF_bd (a := 0) 0 (by omega) (by decide) E (List.all_eq_true.1 ha.2)
    rw [hl, Nat.zero_add] at hb
    have hc := dg_bd ha.1
    generalize valF 0 E = v at hv hb ⊢
    generalize 10 ^ s = T at *
    obtain ⟨q, hq⟩ : ∃ q : Int, q = 10 * 0 + ((c.toNat : Int) - 48) := ⟨_, rfl⟩
    rw [← hq] at hv
    have hq0 : 0 ≤ q := by omega
    have h3 : q * (T : Int) + v = (T : Int) + (r : Int) := by rw [hv]; omega
    have hq1 : q = 1 := by
      rcases Int.lt_trichotomy q 1 with h | h | h
      · have : q = 0 := by omega
        subst this
        omega
      · exact h
      · have : (2 : Int) * (T : Int) ≤ q * (T : Int) := Int.mul_le_mul_of_nonneg_right (by omega) (by omega)
        omega
    subst hq1
    omega
theorem digs_app {D r : List UInt8} (hD : D.all dg = true) (hr : r = [] ∨ ∃ x, r = 46 :: x) : digs (D ++ r) = D := by
  unfold digs
  induction D with
  | nil =>
    rcases hr with rfl | ⟨x, rfl⟩
    · rfl
    · simp [show dg 46 = false from rfl]
  | cons c D ih =>
    simp only [List.all_cons, Bool.and_eq_true] at hD
    simp only [List.cons_append, List.takeWhile_cons, hD.1, if_true, ih hD.2]
theorem sign_text (m : Int) (D r : List UInt8) (hD : headB 45 (D ++ r) = false) :
    sgn ((if m < 0 then [45] else []) ++ (D ++ r)) = (if m < 0 then -1 else 1) ∧ tailIf 45 ((if m < 0 then [45] else []) ++ (D ++ r)) = D ++ r := by
  by_cases h : m < 0
  · simp [h, sgn, tailIf, headB]
  · rw [if_neg h, if_neg h, List.nil_append]
    unfold sgn tailIf
    rw [hD]
    exact ⟨rfl, rfl⟩
theorem sgn_abs (m : Int) : (if m < 0 then (-1 : Int) else 1) * (m.natAbs : Int) = m := by split <;> omega
/-- What a text of digits, and perhaps places, tells. -/
theorem numR_text (m : Int) (D E : List UInt8) (hD : D.all dg = true) (h1 : 1 ≤ D.length) (h12 : D.length ≤ 12) (hE : E.all dg = true) (he1 : 1 ≤ E.length) (he6 : E.length ≤ 6) (hh : headB 45 (D ++ 46 :: E) = false) :
    numR ((if m < 0 then [45] else []) ++ (D ++ 46 :: E)) = some ((if m < 0 then -1 else 1) * (valF 0 D * p10 (E.length : Int) + valF 0 E), E.length, []) := by
  obtain ⟨s1, s2⟩ := sign_text m D (46 :: E) hh
  unfold numR
  rw [s1, s2, digs_app hD (.inr ⟨E, rfl⟩), if_pos ⟨h1, h12⟩, List.drop_left]
  unfold numT
  rw [if_pos (show headB 46 (46 :: E) = true from rfl), show ((46 : UInt8) :: E).tail = E from rfl, digs_full hE, if_pos ⟨he1, he6⟩, List.drop_length, valF_split (valF 0 D) E]
theorem numR_whole (m : Int) (D : List UInt8) (hD : D.all dg = true) (h1 : 1 ≤ D.length) (h12 : D.length ≤ 12) (hh : headB 45 D = false) :
    numR ((if m < 0 then [45] else []) ++ D) = some ((if m < 0 then -1 else 1) * valF 0 D, 0, []) ∧ numI ((if m < 0 then [45] else []) ++ D) = some ((if m < 0 then -1 else 1) * valF 0 D, 0, []) := by
  obtain ⟨s1, s2⟩ := sign_text m D [] (by rw [List.append_nil]; exact hh)
  rw [List.append_nil] at s1 s2
  have hd : digs D = D := digs_full hD
  unfold numR numI
  rw [s1, s2, hd, if_pos (c := 1 ≤ D.length ∧ D.length ≤ 12) ⟨h1, h12⟩, if_pos (c := 1 ≤ D.length ∧ D.length ≤ 12) ⟨h1, h12⟩, List.drop_length]
  unfold numT
  rw [if_neg (show ¬ headB 46 [] = true from by simp [headB])]
  exact ⟨rfl, rfl⟩
theorem num_long (m : Int) (D r : List UInt8) (hD : D.all dg = true) (h12 : 12 < D.length) (hr : r = [] ∨ ∃ x, r = 46 :: x) (hh : headB 45 (D ++ r) = false) :
    numR ((if m < 0 then [45] else []) ++ (D ++ r)) = none ∧ numI ((if m < 0 then [45] else []) ++ (D ++ r)) = none := by
  obtain ⟨s1, s2⟩ := sign_text m D r hh
  unfold numR numI
  rw [s1, s2, digs_app hD hr, if_neg (c := 1 ≤ D.length ∧ D.length ≤ 12) (by omega), if_neg (c := 1 ≤ D.length ∧ D.length ≤ 12) (by omega)]
  exact ⟨rfl, rfl⟩
#print axioms plac_spec
#print axioms numR_text
end Go.Fx
