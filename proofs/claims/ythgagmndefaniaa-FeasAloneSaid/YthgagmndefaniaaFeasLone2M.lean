/- Plain facts: a route for each customer is feasible just where it ought to be; a tour of all nodes is. No program. -/
import Derived.Test.YthgagmndefaniaaFeasLoneM
namespace Go.Feas
open Go.Canon Go.Plans
theorem lone_at : ∀ {n k : Nat}, k + 1 < n → (lone n)[k]? = some [((k + 1 : Nat) : Int)]
  | 0, k, h => by omega
  | n + 1, k, h => by
    rw [lone]
    by_cases h1 : k + 1 < n
    · rw [List.getElem?_append_left (by rw [lone_length]; omega)]
      exact lone_at h1
    · have e : n = k + 1 := by omega
      subst e
      rw [List.getElem?_append_right (by rw [lone_length]; omega), lone_length, if_pos (by omega)]
      simp
theorem routesW_has {x : Ins} {w : Wr} : ∀ {rr : Rts} {i j : Nat} {r : List Int}, rr[j]? = some r → w ∈ routeW x (i + j) r → w ∈ routesW x i rr
  | [], _, _, _, h, _ => by simp at h
  | q :: rr, i, 0, r, h, hw => by
    have e : q = r := by simpa using h
    subst e
    rw [routesW, List.mem_append]; exact .inl hw
  | q :: rr, i, j + 1, r, h, hw => by
    rw [routesW, List.mem_append]
    refine .inr (routesW_has (j := j) (r := r) (by simpa using h) ?_)
    rw [show i + 1 + j = i + (j + 1) by omega]; exact hw
theorem lone_cvrp {N : ByteArray → Bool} {x : Ins} (hw : Well N x) (h2 : x.kind = 2) : feasB x (lone x.nodes.length) = (fitsB x x.nodes.length && (decide (x.fleet = 0) || decide (((lone x.nodes.length).length : Int) ≤ x.fleet))) := by
  have h1 : x.kind ≠ 1 := by omega
  have hf0 := (fine_of hw).fleet
  rw [Bool.eq_iff_iff, Bool.and_eq_true, Bool.or_eq_true, decide_eq_true_eq, decide_eq_true_eq, fits_all]
  unfold feasB
  rw [decide_eq_true_eq, lone_check h1, List.append_eq_nil_iff, lone_length]
  have hfl : fleetW x (lone x.nodes.length) = [] ↔ (x.fleet = 0 ∨ ((x.nodes.length - 1 : Nat) : Int) ≤ x.fleet) := by
    unfold fleetW
    rw [if_neg h1, lone_full]
    constructor
    · intro h
      by_cases hc : 0 < x.fleet ∧ x.fleet < ((x.nodes.length - 1 : Nat) : Int)
      · rw [if_pos hc] at h; cases h
      · omega
    · intro h
      rw [if_neg (by omega)]
  have hd : ∀ i, 0 < i → i < x.nodes.length → 0 ≤ (at' x i).demand := by
    intro i h0 hi
    have := (hw.nodes i hi).2.1
    unfold demandB at this
    rw [if_neg (by omega)] at this
    simp only [number, signed, h2, Bool.or_eq_true, Bool.and_eq_true, decide_eq_true_eq] at this
    omega
  have hro : routesW x 0 (lone x.nodes.length) = [] ↔ ∀ i, 0 < i → i < x.nodes.length → (at' x i).demand ≤ x.cap := by
    constructor
    · intro h i h0 hi
      by_cases hc : (at' x i).demand ≤ x.cap
      · exact hc
      · exfalso
        obtain ⟨k, rfl⟩ : ∃ k, i = k + 1 := ⟨i - 1, by omega⟩
        have hm : (5, ((0 + k : Nat) : Int), ((k + 1 : Nat) : Int)) ∈ routesW x 0 (lone x.nodes.length) := by
          refine routesW_has (lone_at hi) ?_
          unfold routeW
          rw [lone_load hi, if_pos (by simp only [overB, Bool.or_eq_true, decide_eq_true_eq]; omega)]
          exact List.mem_append_left _ (List.mem_singleton.2 rfl)
        rw [h] at hm
        cases hm
    · intro h
      rw [List.eq_nil_iff_forall_not_mem]
      intro w hwm
      obtain ⟨j, r, hr, h3⟩ := routes_mem hwm
      obtain ⟨i, h4, h5, rfl⟩ := lone_mem (List.mem_of_getElem? hr)
      unfold routeW at h3
      rw [if_pos h2, List.append_nil, lone_load h5, if_neg] at h3
      · cases h3
      · have := h i h4 h5
        have := hd i h4 h5
        simp only [overB, Bool.or_eq_true, decide_eq_true_eq]
        omega
  rw [hfl, hro]
  exact And.comm
theorem lone_pdptw {N : ByteArray → Bool} {x : Ins} (hw : Well N x) (h4 : x.kind = 4) (hn : 2 ≤ x.nodes.length) : checkW x (lone x.nodes.length) ≠ [] := by
  have h1 : x.kind ≠ 1 := by omega
  rw [lone_check h1]
  intro h
  have h2 := (List.append_eq_nil_iff.1 h).2
  have hm := (hw.nodes 1 (by omega)).2.2.2.2
  have hd0 : (at' x 1).demand ≠ 0 := by
    unfold mateB at hm
    rw [if_neg (by omega)] at hm
    split at hm
    · cases hm
    · simp only [Bool.and_eq_true, decide_eq_true_eq] at hm
      exact hm.1
  have hin : ∀ w, w ∈ routeW x (0 + 0) [((0 + 1 : Nat) : Int)] → False := fun w hw1 => by
    have := routesW_has (x := x) (i := 0) (lone_at (n := x.nodes.length) (k := 0) (by omega)) hw1
    rw [h2] at this
    cases this
  by_cases hneg : (at' x 1).demand < 0
  · refine hin (5, 0, 1) ?_
    unfold routeW
    have e := lone_load (x := x) (j := 0) (i := 1) (by omega)
    have e2 : loadW x (0 + 0) [((0 + 1 : Nat) : Int)] = loadW x 0 [((1 : Nat) : Int)] := rfl
    rw [e2, e, if_pos (by simp only [overB, Bool.or_eq_true, decide_eq_true_eq]; omega)]
    exact List.mem_append_left _ (List.mem_singleton.2 rfl)
  · have hpos : 0 < (at' x 1).demand := by omega
    have hmate : (at' x 1).mate ≠ ((1 : Nat) : Int) := by
      intro he
      unfold mateB at hm
      rw [if_neg (by omega), if_pos (.inr (.inr (.inl he)))] at hm
      cases hm
    refine hin (7, 0, 1) ?_
    unfold routeW
    rw [if_neg (by omega), if_neg (by omega)]
    refine List.mem_append_right _ (List.mem_append_right _ ?_)
    have e : nd x (([((0 + 1 : Nat) : Int)] : List Int).getD 0 0) = at' x 1 := rfl
    show _ ∈ pairsW x (0 + 0) [((0 + 1 : Nat) : Int)] 1
    rw [pairsW, pairsW, List.nil_append]
    unfold pairK
    rw [e, if_neg, if_neg]
    · exact List.mem_singleton.2 rfl
    · intro hc; exact hmate (List.mem_singleton.1 hc)
    · rintro (hc | hc)
      · omega
      · cases hc
theorem tour_length : ∀ n, (tourN n).length = n
  | 0 => rfl
  | n + 1 => by rw [tourN, List.length_append, tour_length n]; rfl
theorem tour_mem {s : Int} : ∀ {n : Nat}, s ∈ tourN n ↔ 0 ≤ s ∧ s < n
  | 0 => ⟨fun h => (by cases h), fun h => by omega⟩
  | n + 1 => by
    rw [tourN, List.mem_append, tour_mem, List.mem_singleton]
    omega
theorem tour_count (c : Nat) : ∀ n, (tourN n).count (c : Int) = if c < n then 1 else 0
  | 0 => rfl
  | n + 1 => by
    rw [tourN, List.count_append, tour_count c n]
    by_cases hc : c = n
    · subst hc
      rw [if_neg (by omega), if_pos (by omega)]
      simp
    · have : ([(n : Int)] : List Int).count (c : Int) = 0 := by
        rw [List.count_eq_zero]
        intro h
        have := List.mem_singleton.1 h
        omega
      rw [this]
      by_cases h1 : c < n
      · rw [if_pos h1, if_pos (by omega)]
      · rw [if_neg h1, if_neg (by omega)]
theorem tour_feas {x : Ins} (h1 : x.kind = 1) (hn : 1 ≤ x.nodes.length) : feasB x [tourN x.nodes.length] = true := by
  have hl : least x = 0 := by unfold least; rw [if_pos h1]
  have hu : unks x 0 [tourN x.nodes.length] = [] := by
    apply List.length_eq_zero_iff.1
    rw [unks_count, List.length_eq_zero_iff, List.filter_eq_nil_iff]
    intro s hs
    have h2 := tour_mem.1 (by simpa using hs)
    simp only [badB, hl, Bool.or_eq_true, decide_eq_true_eq, not_or]
    omega
  have hc : ∀ m, m ≤ x.nodes.length → cnts 0 [tourN x.nodes.length] m = [] := by
    intro m
    induction m with
    | zero => intro _; rfl
    | succ m ih =>
      intro hm
      have e : countR [tourN x.nodes.length] (m : Int) = 1 := by
        rw [countR_flat]
        simp only [List.flatten_cons, List.flatten_nil, List.append_nil]
        rw [tour_count, if_pos (by omega)]
      rw [cnts, ih (by omega), List.nil_append, if_pos (Nat.zero_le _), e]
      rfl
  have hf : full [tourN x.nodes.length] = 1 := by
    unfold full normR
    rw [List.filter_cons_of_pos]
    · rfl
    · have : tourN x.nodes.length ≠ [] := fun e => by have := tour_length x.nodes.length; rw [e] at this; simp at this; omega
      simpa using this
  unfold feasB checkW
  rw [if_neg (by rw [hu]; simp), hl, hc _ (Nat.le_refl _), List.nil_append, if_pos h1, List.append_nil]
  unfold fleetW
  rw [if_pos h1, hf]
  rfl
#print axioms lone_cvrp
#print axioms lone_pdptw
#print axioms tour_feas
end Go.Feas
