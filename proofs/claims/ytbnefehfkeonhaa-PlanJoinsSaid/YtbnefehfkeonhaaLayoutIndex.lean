/- The document's own answers for layer 7: Index and Count, at any numbers. Conditions: none. -/
import Derived.Test.YtbnefehfkeonhaaLayoutAt
namespace Go.Layout
/-- layout.Index. -/
def indexE (k n i j : Int) : Int := if mayB k n = true ∧ (0 ≤ i ∧ i < n) ∧ (0 ≤ j ∧ j < n) then index k.toNat n.toNat i.toNat j.toNat else -1
/-- layout.Count. -/
def countE (k n : Int) : Int := if mayB k n = true then (count k.toNat n.toNat : Int) else 0
theorem indexE_in {k n i j : Nat} (h1 : 1 ≤ k) (h2 : k ≤ 7) (h3 : n ≤ 400) (hi : i < n) (hj : j < n) : indexE k n i j = index k n i j := by
  unfold indexE; rw [if_pos ⟨mayB_nat h1 h2 (by omega) h3, by omega, by omega⟩]; simp
theorem indexE_out {k n i j : Int} (h : ¬ (mayB k n = true ∧ (0 ≤ i ∧ i < n) ∧ (0 ≤ j ∧ j < n))) : indexE k n i j = -1 := by unfold indexE; rw [if_neg h]
theorem countE_in {k n : Nat} (h1 : 1 ≤ k) (h2 : k ≤ 7) (h3 : 1 ≤ n) (h4 : n ≤ 400) : countE k n = count k n := by
  unfold countE; rw [if_pos (mayB_nat h1 h2 h3 h4)]; simp
theorem countE_out {k n : Int} (h : mayB k n = false) : countE k n = 0 := by unfold countE; rw [h]; simp
theorem nat_in {z : Int} (h : 0 ≤ z) : ∃ m : Nat, z = (m : Int) := ⟨z.toNat, by omega⟩
end Go.Layout
namespace Go.Proofs
open Go.RowKit Go.Shelf Go.Layout
attribute [local go_sem] Oper.semAt_some




end Go.Proofs
