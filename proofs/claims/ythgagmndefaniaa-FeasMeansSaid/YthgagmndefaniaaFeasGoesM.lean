/- Plain facts: nothing is wrong with a route just if each step of it goes. No program. -/
import Derived.Test.YthgagmndefaniaaFeasToldM
import Derived.Test.YthgagmndefaniaaG01
namespace Go.Feas
open Go.Canon Go.Plans
theorem all_snoc {P : List Int → Int → Prop} (l : List Int) (a : Int) : (∀ k s, (l ++ [a])[k]? = some s → P ((l ++ [a]).take k) s) ↔ (∀ k s, l[k]? = some s → P (l.take k) s) ∧ P l a := by
  constructor
  · intro h
    refine ⟨fun k s hk => ?_, ?_⟩
    · have hlt := (List.getElem?_eq_some_iff.1 hk).1
      have := h k s (by rw [List.getElem?_append_left hlt]; exact hk)
      rw [List.take_append_of_le_length (by omega)] at this
      exact this
    · have := h l.length a (by simp)
      rw [List.take_append_of_le_length (Nat.le_refl _), List.take_length] at this
      exact this
  · intro ⟨h1, h2⟩ k s hk
    by_cases hlt : k < l.length
    · rw [List.getElem?_append_left hlt] at hk
      rw [List.take_append_of_le_length (by omega)]
      exact h1 k s hk
    · have hb := (List.getElem?_eq_some_iff.1 hk).1
      have e : k = l.length := by simp only [List.length_append, List.length_cons, List.length_nil] at hb; omega
      subst e
      rw [List.take_append_of_le_length (Nat.le_refl _), List.take_length]
      have e2 : a = s := by simpa using hk
      rw [← e2]; exact h2
/-- A step within the capacity, and one in time. -/
def Holds (x : Ins) (p : List Int) (s : Int) : Prop := overB x ((loadsF x p).1 + (nd x s).demand) = false
def InTime (x : Ins) (p : List Int) (s : Int) : Prop := begins x (timesF x p) s ≤ unit x * (nd x s).due
theorem holds_all (x : Ins) (r : List Int) : (∀ v ∈ (loadsF x r).2, overB x v = false) ↔ ∀ k s, r[k]? = some s → Holds x (r.take k) s := by
  refine snoc_ind (P := fun r => (∀ v ∈ (loadsF x r).2, overB x v = false) ↔ ∀ k s, r[k]? = some s → Holds x (r.take k) s) ?_ (fun l a ih => ?_) r
  · exact ⟨fun _ k s h => by simp at h, fun _ v h => by cases h⟩
  · rw [all_snoc, ← ih, loadsF_snoc]
    show (∀ v ∈ (loadsF x l).2 ++ [(loadsF x l).1 + (nd x a).demand], overB x v = false) ↔ _
    constructor
    · intro h
      exact ⟨fun v hv => h v (List.mem_append_left _ hv), h _ (List.mem_append_right _ (List.mem_singleton.2 rfl))⟩
    · intro ⟨h1, h2⟩ v hv
      rcases List.mem_append.1 hv with hv | hv
      · exact h1 v hv
      · rw [List.mem_singleton.1 hv]; exact h2
theorem time_all (x : Ins) (r : List Int) : (timesF x r).late < 0 ↔ ∀ k s, r[k]? = some s → InTime x (r.take k) s := by
  refine snoc_ind (P := fun r => (timesF x r).late < 0 ↔ ∀ k s, r[k]? = some s → InTime x (r.take k) s) ?_ (fun l a ih => ?_) r
  · exact ⟨fun _ k s h => by simp at h, fun _ => (by show (-1 : Int) < 0; decide)⟩
  · rw [all_snoc, ← ih, timesF_snoc]
    show (if (timesF x l).late < 0 ∧ unit x * (nd x a).due < begins x (timesF x l) a then ((timesF x l).out.length : Int) else (timesF x l).late) < 0 ↔ _
    unfold InTime
    by_cases hc : (timesF x l).late < 0 ∧ unit x * (nd x a).due < begins x (timesF x l) a
    · rw [if_pos hc]
      have : (0 : Int) ≤ ((timesF x l).out.length : Int) := Int.natCast_nonneg _
      omega
    · rw [if_neg hc]
      omega
theorem pairs_all (x : Ins) (i : Nat) (r : List Int) : ∀ m, pairsW x i r m = [] ↔ ∀ k, k < m → (nd x (r.getD k 0)).demand ≤ 0 ∨ (nd x (r.getD k 0)).mate ∈ r.drop (k + 1)
  | 0 => ⟨fun _ k h => by omega, fun _ => rfl⟩
  | m + 1 => by
    rw [pairsW, List.append_eq_nil_iff, pairs_all x i r m]
    have h1 : pairK x i r m = [] ↔ ((nd x (r.getD m 0)).demand ≤ 0 ∨ (nd x (r.getD m 0)).mate ∈ r.drop (m + 1)) := by
      unfold pairK
      by_cases hc : (nd x (r.getD m 0)).demand ≤ 0 ∨ (nd x (r.getD m 0)).mate ∈ r.drop (m + 1)
      · rw [if_pos hc]; exact ⟨fun _ => hc, fun _ => rfl⟩
      · rw [if_neg hc]
        refine ⟨fun h => ?_, fun h => absurd h hc⟩
        split at h <;> cases h
    rw [h1]
    constructor
    · intro ⟨h2, h3⟩ k hk
      by_cases e : k = m
      · subst e; exact h3
      · exact h2 k (by omega)
    · intro h
      exact ⟨fun k hk => h k (by omega), h m (Nat.lt_succ_self _)⟩
/-- Each pickup is ahead of its mate, on this route. -/
def Paired (x : Ins) (r : List Int) : Prop := ∀ k, k < r.length → (nd x (r.getD k 0)).demand ≤ 0 ∨ (nd x (r.getD k 0)).mate ∈ r.drop (k + 1)
/-- Back in time. -/
def Home (x : Ins) (r : List Int) : Prop := r = [] ∨ back x (timesF x r) = false
theorem route_all {x : Ins} (i : Nat) {r : List Int} (hn : nodesB x r = true) : routeW x i r = [] ↔
    (∀ k s, r[k]? = some s → Holds x (r.take k) s) ∧ (x.kind ≠ 2 → (∀ k s, r[k]? = some s → InTime x (r.take k) s) ∧ Home x r) ∧ (x.kind ≠ 2 → x.kind ≠ 3 → Paired x r) := by
  have hl : loadW x i r = [] ↔ ∀ k s, r[k]? = some s → Holds x (r.take k) s := by
    rw [loadW_nil, ← holds_all]
    unfold loads
    rw [if_pos hn]
  have ht : lateW x i r = [] ↔ (∀ k s, r[k]? = some s → InTime x (r.take k) s) ∧ Home x r := by
    rw [lateW_nil, ← time_all]
    unfold lateI Home
    by_cases h0 : r.length = 0
    · have e : r = [] := List.length_eq_zero_iff.1 h0
      subst e
      exact ⟨fun _ => ⟨(by show (-1 : Int) < 0; decide), .inl rfl⟩, fun _ => (by show (-1 : Int) < 0; decide)⟩
    · rw [if_neg h0, if_neg (by rw [hn]; decide)]
      have hne : r ≠ [] := fun e => h0 (by rw [e]; rfl)
      by_cases hc : (timesF x r).late < 0 ∧ back x (timesF x r) = true
      · rw [if_pos hc]
        refine ⟨fun h => by omega, fun h => ?_⟩
        rcases h.2 with h2 | h2
        · exact absurd h2 hne
        · rw [hc.2] at h2; cases h2
      · rw [if_neg hc]
        refine ⟨fun h => ⟨h, .inr ?_⟩, fun h => h.1⟩
        cases hb : back x (timesF x r) with
        | false => rfl
        | true => exact absurd ⟨h, hb⟩ hc
  have hp : pairsW x i r r.length = [] ↔ Paired x r := pairs_all x i r r.length
  unfold routeW
  rw [List.append_eq_nil_iff, hl]
  refine and_congr_right fun _ => ?_
  by_cases h2 : x.kind = 2
  · rw [if_pos h2]
    exact ⟨fun _ => ⟨fun h => absurd h2 h, fun h => absurd h2 h⟩, fun _ => rfl⟩
  · rw [if_neg h2, List.append_eq_nil_iff, ht]
    by_cases h3 : x.kind = 3
    · rw [if_pos h3]
      exact ⟨fun h => ⟨fun _ => h.1, fun _ h => absurd h3 h⟩, fun h => ⟨h.1 h2, rfl⟩⟩
    · rw [if_neg h3, hp]
      exact ⟨fun h => ⟨fun _ => h.1, fun _ _ => h.2⟩, fun h => ⟨h.1 h2, h.2 h2 h3⟩⟩
theorem routes_all {x : Ins} : ∀ {rr : Rts} {i : Nat}, routesW x i rr = [] ↔ ∀ j r, rr[j]? = some r → routeW x (i + j) r = []
  | [], i => ⟨fun _ j r h => by simp at h, fun _ => rfl⟩
  | q :: rr, i => by
    rw [routesW, List.append_eq_nil_iff, routes_all]
    constructor
    · intro ⟨h1, h2⟩ j r hj
      cases j with
      | zero =>
        have e : q = r := by simpa using hj
        subst e; exact h1
      | succ j =>
        have := h2 j r (by simpa using hj)
        rw [show i + (j + 1) = i + 1 + j by omega]; exact this
    · intro h
      refine ⟨h 0 q rfl, fun j r hj => ?_⟩
      have := h (j + 1) r (by simpa using hj)
      rw [show i + 1 + j = i + (j + 1) by omega]; exact this
#print axioms route_all
#print axioms routes_all
end Go.Feas
