/- The document's own answer for layout.Pack. Conditions: none but that what is handed in is a slice of ints. -/
import Derived.Test.YtipajbcamdcnkaaDoorLayoutUnpack
namespace Go.Layout
theorem packUpto_no {m : List Int} {k n a b i j : Nat} (ha : a < n) (hb : b < n) (hc : cellAt k (a, b) = (i, j)) (h : told k a b = false) : packUpto m k n (a * n + b + 1) = packUpto m k n (a * n + b) := by
  rw [packUpto_next ha hb hc, h]; simp
theorem packUpto_yes {m : List Int} {k n a b i j : Nat} (ha : a < n) (hb : b < n) (hc : cellAt k (a, b) = (i, j)) (h : told k a b = true) : packUpto m k n (a * n + b + 1) = packUpto m k n (a * n + b) ++ [cell m n i j] := by
  rw [packUpto_next ha hb hc, h]; simp
theorem cell_some {l : List Int} {n N i j : Nat} (hl : l.length = N) (h : i * n + j < N) : ∃ x, l[i * n + j]? = some x ∧ cell l n i j = x := by
  have h2 : i * n + j < l.length := by rw [hl]; exact h
  exact ⟨l[i * n + j], List.getElem?_eq_getElem h2, by simp [cell, List.getD, List.getElem?_eq_getElem h2]⟩
theorem packUpto_most {m : List Int} {k n s : Nat} (hn4 : n ≤ 400) : (packUpto m k n s).length ≤ 160000 := by
  have h1 : (packUpto m k n s).length = (toldUpto k n s).length := by simp [packUpto]
  have h2 := toldUpto_le k n s
  have h3 : (places k n).length = rowsUp k n n := by rw [← toldUpto_all, len_rows (Nat.le_refl n)]
  have h4 := rowsUp_le k n n
  have h5 : n * n ≤ 400 * 400 := Nat.mul_le_mul hn4 hn4
  rw [h1]
  generalize n * n = N at h4 h5
  omega
theorem room_of {c : Nat} (h : c ≤ 160000) : c + 1 ≤ maxLen ∧ (c + 1) * 8 ≤ 140737488355328 := by unfold maxLen; omega
theorem packUpto_length (m : List Int) (k n s : Nat) : (packUpto m k n s).length = (toldUpto k n s).length := by simp [packUpto]
end Go.Layout
namespace Go.Proofs
open Go.RowKit Go.Shelf Go.Layout Go.Sort
attribute [local go_sem] Oper.semAt_some

theorem wrap_mul {i n : Nat} (h : i * n ≤ 1000000000) : wrap64 ((i : Int) * (n : Int)) = ((i * n : Nat) : Int) := by
  rw [← Int.natCast_mul]
  generalize i * n = u at h
  unfold wrap64; omega
theorem ldrew_owns {W : World} {base size : Nat} {e : TypeId} {v : Value} {c : Nat} {xs : List Value} (h : W.ownsRow base e size v c xs) (n : Nat) : (W.drewN n).ownsRow base e size v c xs := h
end Go.Proofs
