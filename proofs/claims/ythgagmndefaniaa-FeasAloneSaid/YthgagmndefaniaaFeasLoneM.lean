/- Plain facts: a route for each customer, and a tour of all nodes. No program. -/
import Derived.Test.YthgagmndefaniaaFeasToldM
import Derived.Test.YthgagmndefaniaaG01
namespace Go.Feas
open Go.Canon Go.Plans
/-- The routes, when so many nodes have been looked at. -/
def lone : Nat → Rts
  | 0 => []
  | i + 1 => lone i ++ if 0 < i then [[(i : Int)]] else []
def fitsB (x : Ins) : Nat → Bool
  | 0 => true
  | i + 1 => fitsB x i && (decide (i = 0) || decide ((at' x i).demand ≤ x.cap))
def tourN : Nat → List Int
  | 0 => []
  | i + 1 => tourN i ++ [(i : Int)]
theorem lone_mem {r : List Int} : ∀ {n : Nat}, r ∈ lone n → ∃ i : Nat, 0 < i ∧ i < n ∧ r = [(i : Int)]
  | 0, h => by cases h
  | n + 1, h => by
    rw [lone, List.mem_append] at h
    rcases h with h | h
    · obtain ⟨i, h1, h2, h3⟩ := lone_mem h
      exact ⟨i, h1, by omega, h3⟩
    · split at h
      · rename_i h1
        exact ⟨n, h1, Nat.lt_succ_self _, List.mem_singleton.1 h⟩
      · cases h
theorem lone_has : ∀ {n i : Nat}, 0 < i → i < n → [(i : Int)] ∈ lone n
  | 0, i, _, h => by omega
  | n + 1, i, h0, h => by
    rw [lone, List.mem_append]
    by_cases h1 : i < n
    · exact .inl (lone_has h0 h1)
    · have e : i = n := by omega
      subst e
      rw [if_pos h0]
      exact .inr (List.mem_singleton.2 rfl)
theorem lone_length : ∀ n, (lone n).length = n - 1
  | 0 => rfl
  | n + 1 => by
    rw [lone, List.length_append, lone_length n]
    split
    · simp only [List.length_cons, List.length_nil]; omega
    · simp only [List.length_nil]; omega
theorem lone_count (c : Nat) : ∀ n, countR (lone n) (c : Int) = if 0 < c ∧ c < n then 1 else 0
  | 0 => by simp [lone, countR]
  | n + 1 => by
    rw [countR_flat, lone, List.flatten_append, List.count_append, ← countR_flat, lone_count c n]
    by_cases h0 : 0 < n
    · rw [if_pos h0]
      by_cases hc : c = n
      · subst hc
        rw [if_neg (by omega), if_pos (by omega)]
        simp
      · have : ([[(n : Int)]] : Rts).flatten.count (c : Int) = 0 := by
          simp only [List.flatten_cons, List.flatten_nil, List.append_nil]
          rw [List.count_eq_zero]
          intro h
          have := List.mem_singleton.1 h
          omega
        rw [this]
        by_cases h1 : 0 < c ∧ c < n
        · rw [if_pos h1, if_pos (by omega)]
        · rw [if_neg h1, if_neg (by omega)]
    · rw [if_neg h0, if_neg (by omega), if_neg (by omega)]
      rfl
theorem lone_full (n : Nat) : full (lone n) = n - 1 := by
  unfold full
  have e : normR (lone n) = lone n := by
    unfold normR
    rw [List.filter_eq_self]
    intro r hr
    obtain ⟨i, _, _, rfl⟩ := lone_mem hr
    rfl
  rw [e, lone_length]
theorem lone_unks {x : Ins} (h1 : x.kind ≠ 1) : unks x 0 (lone x.nodes.length) = [] := by
  apply List.length_eq_zero_iff.1
  rw [unks_count, List.length_eq_zero_iff, List.filter_eq_nil_iff]
  intro s hs
  obtain ⟨r, hr, hsr⟩ := List.mem_flatten.1 hs
  obtain ⟨i, h2, h3, rfl⟩ := lone_mem hr
  rw [List.mem_singleton.1 hsr]
  simp only [badB, least, if_neg h1, Bool.or_eq_true, decide_eq_true_eq, not_or]
  omega
theorem lone_cnts (n : Nat) : ∀ m, m ≤ n → cnts 1 (lone n) m = []
  | 0, _ => rfl
  | m + 1, h => by
    rw [cnts, lone_cnts n m (by omega), List.nil_append]
    split
    · rw [lone_count, if_pos (by omega)]; rfl
    · rfl
theorem lone_check {x : Ins} (h1 : x.kind ≠ 1) : checkW x (lone x.nodes.length) = fleetW x (lone x.nodes.length) ++ routesW x 0 (lone x.nodes.length) := by
  unfold checkW
  rw [if_neg (by rw [lone_unks h1]; simp), if_neg h1]
  have e : least x = 1 := by unfold least; rw [if_neg h1]
  rw [e, lone_cnts _ _ (Nat.le_refl _), List.nil_append]
theorem lone_pairs {N : ByteArray → Bool} {x : Ins} (hw : Well N x) {i j : Nat} (h0 : 0 < i) (hi : i < x.nodes.length) {w : Wr} (h : w ∈ pairsW x j [(i : Int)] 1) (h4 : x.kind = 4) : w.1 = 7 := by
  have e : nd x (([(i : Int)] : List Int).getD 0 0) = at' x i := rfl
  rw [pairsW, pairsW, List.nil_append] at h
  unfold pairK at h
  rw [e] at h
  split at h
  · cases h
  · split at h
    · rename_i h1 h2
      have hm := (hw.nodes i hi).2.2.2.2
      unfold mateB at hm
      rw [if_neg (by omega)] at hm
      have h3 := List.mem_singleton.1 h2
      rw [if_pos (.inr (.inr (.inl h3)))] at hm
      cases hm
    · rw [List.mem_singleton.1 h]
theorem lone_codes {N : ByteArray → Bool} {x : Ins} (hw : Well N x) (h1 : x.kind ≠ 1) {w : Wr} (h : w ∈ checkW x (lone x.nodes.length)) : 4 ≤ w.1 ∧ w.1 ≤ 7 ∧ (w.1 = 7 → x.kind = 4) := by
  rw [lone_check h1, List.mem_append] at h
  rcases h with h | h
  · have := fleet_mem h; omega
  · obtain ⟨j, r, hr, h2⟩ := routes_mem h
    obtain ⟨i, h3, h4, rfl⟩ := lone_mem (List.mem_of_getElem? hr)
    unfold routeW at h2
    rw [List.mem_append] at h2
    rcases h2 with h2 | h2
    · have := load_mem h2; omega
    · split at h2
      · cases h2
      · rw [List.mem_append] at h2
        rcases h2 with h2 | h2
        · have := late_mem h2; omega
        · split at h2
          · cases h2
          · rename_i k2 k3
            have hk := hw.kind
            simp only [kindB, Bool.and_eq_true, decide_eq_true_eq] at hk
            have k4 : x.kind = 4 := by omega
            have := lone_pairs hw h3 h4 h2 k4
            omega
theorem lone_load {x : Ins} {i j : Nat} (hi : i < x.nodes.length) : loadW x j [(i : Int)] = if overB x (at' x i).demand = true then [(5, (j : Int), (i : Int))] else [] := by
  have hn : nodesB x [(i : Int)] = true := by
    simp only [nodesB, List.all_cons, List.all_nil, Bool.and_true, nodeB, Bool.and_eq_true, decide_eq_true_eq]; omega
  have e : loads x [(i : Int)] = [(at' x i).demand] := by
    unfold loads; rw [if_pos hn]
    show [0 + (at' x i).demand] = _
    rw [Int.zero_add]
  unfold loadW
  rw [e]
  cases h : overB x (at' x i).demand with
  | true => simp [List.findIdx?_cons, h]
  | false => simp [List.findIdx?_cons, h]
theorem fits_all {x : Ins} : ∀ {n : Nat}, fitsB x n = true ↔ ∀ i, 0 < i → i < n → (at' x i).demand ≤ x.cap
  | 0 => ⟨fun _ i _ h => by omega, fun _ => rfl⟩
  | n + 1 => by
    rw [fitsB, Bool.and_eq_true, fits_all, Bool.or_eq_true, decide_eq_true_eq, decide_eq_true_eq]
    constructor
    · intro ⟨h1, h2⟩ i h3 h4
      by_cases h5 : i < n
      · exact h1 i h3 h5
      · have e : i = n := by omega
        subst e
        exact h2.resolve_left (by omega)
    · intro h
      exact ⟨fun i h1 h2 => h i h1 (by omega), by by_cases h0 : n = 0; exact .inl h0; exact .inr (h n (by omega) (Nat.lt_succ_self _))⟩
#print axioms lone_codes
#print axioms fits_all
end Go.Feas
