/- Plain facts on plans, told stop by stop; no program. -/
import Derived.Test.YtbnefehfkeonhaaPlanMem
namespace Go.Plans
open Go.Proofs
theorem flat_split {rr : Rts} {i : Nat} {l : List Int} (h : rr[i]? = some l) : rr = rr.take i ++ l :: rr.drop (i + 1) := by
  obtain ⟨hi, he⟩ := List.getElem?_eq_some_iff.1 h
  rw [← he, ← List.drop_eq_getElem_cons hi, List.take_append_drop]
theorem flat_get {rr : Rts} {i j : Nat} {l : List Int} {s : Int} (h : rr[i]? = some l) (hj : l[j]? = some s) : rr.flatten[many (rr.take i) + j]? = some s := by
  have e := congrArg List.flatten (flat_split h)
  rw [List.flatten_append, List.flatten_cons] at e
  rw [e, List.getElem?_append_right (by rw [← many_flat]; omega), ← many_flat, Nat.add_sub_cancel_left, List.getElem?_append_left (List.getElem?_eq_some_iff.1 hj).1, hj]
theorem flat_take {rr : Rts} {i j : Nat} {l : List Int} (h : rr[i]? = some l) (hj : j ≤ l.length) : rr.flatten.take (many (rr.take i) + j) = (rr.take i).flatten ++ l.take j := by
  have e := congrArg List.flatten (flat_split h)
  rw [List.flatten_append, List.flatten_cons] at e
  rw [e, List.take_append, ← many_flat, Nat.add_sub_cancel_left, List.take_of_length_le (by rw [← many_flat]; omega), List.take_append_of_le_length hj]
theorem place_here {s : Int} : ∀ {l : List Int} {j : Nat}, l[j]? = some s → s ∉ l.take j → place s l = some j
  | [], j, h, _ => by simp at h
  | a :: l, 0, h, _ => by
    have : a = s := by simpa using h
    simp [place, this]
  | a :: l, j + 1, h, hn => by
    rw [List.take_succ_cons, List.mem_cons, not_or] at hn
    unfold place
    rw [if_neg (fun e => hn.1 e.symm), place_here (l := l) (j := j) (by simpa using h) hn.2]
    rfl
theorem findR_flat {s : Int} {rr : Rts} {i j : Nat} {l : List Int} (h : rr[i]? = some l) (hj : l[j]? = some s) (hn : s ∉ rr.flatten.take (many (rr.take i) + j)) : findR s rr = some (i, j) := by
  have hjl : j ≤ l.length := Nat.le_of_lt (List.getElem?_eq_some_iff.1 hj).1
  rw [flat_take h hjl, List.mem_append, not_or] at hn
  have hi := (List.getElem?_eq_some_iff.1 h).1
  rw [flat_split h, findR_append, findR_none.2 hn.1, findR_cons, place_here hj hn.2]
  simp
  omega
theorem stops_flat (rr : Rts) : stopsIn rr = rr.flatten.all fun s => decide (0 ≤ s) && decide (s ≤ 399) := by
  unfold stopsIn
  rw [List.all_flatten]
/-- How often each number below n is in a list. -/
def cntL (l : List Int) (n : Nat) : List Int := (List.range n).map fun (c : Nat) => (l.count (c : Int) : Int)
theorem cntL_flat (rr : Rts) (n : Nat) : cntL rr.flatten n = countL rr n := by
  unfold cntL countL
  apply List.map_congr_left
  intro c _
  rw [countR_flat]
theorem cntL_length (l : List Int) (n : Nat) : (cntL l n).length = n := by simp [cntL]
theorem cntL_nil (n : Nat) : cntL [] n = List.replicate n 0 := by
  unfold cntL
  rw [List.eq_replicate_iff]
  exact ⟨by simp, fun b hb => by obtain ⟨c, _, rfl⟩ := List.mem_map.1 hb; simp⟩
theorem cntL_get (l : List Int) {n c : Nat} (h : c < n) : (cntL l n)[c]? = some (l.count (c : Int) : Int) := by
  simp [cntL, h]
theorem cntL_out (l : List Int) (n : Nat) {s : Int} (h : ¬ (0 ≤ s ∧ s < n)) : cntL (l ++ [s]) n = cntL l n := by
  unfold cntL
  apply List.map_congr_left
  intro c hc
  rw [List.mem_range] at hc
  have : ([s] : List Int).count (c : Int) = 0 := by
    rw [List.count_singleton, if_neg]
    intro e
    have := eq_of_beq e
    omega
  rw [List.count_append, this]; rfl
theorem cntL_in (l : List Int) (n : Nat) {c : Nat} (h : c < n) : cntL (l ++ [(c : Int)]) n = (cntL l n).set c ((l.count (c : Int) : Int) + 1) := by
  apply List.ext_getElem?
  intro k
  by_cases hk : k < n
  · rw [cntL_get _ hk, List.getElem?_set, cntL_length]
    by_cases e : c = k
    · subst e
      rw [if_pos rfl, if_pos h, List.count_append, List.count_singleton]
      simp
    · rw [if_neg e, cntL_get _ hk, List.count_append, List.count_singleton, if_neg]
      · rfl
      · intro e2
        have := eq_of_beq e2
        omega
  · rw [List.getElem?_eq_none (by rw [cntL_length]; omega), List.getElem?_eq_none (by rw [List.length_set, cntL_length]; omega)]
theorem take_snoc {l : List Int} {k : Nat} {s : Int} (h : l[k]? = some s) : l.take (k + 1) = l.take k ++ [s] := by rw [List.take_add_one, h]; rfl
#print axioms findR_flat
#print axioms cntL_in
end Go.Plans
