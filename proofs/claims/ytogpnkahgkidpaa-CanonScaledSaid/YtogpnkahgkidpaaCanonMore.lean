/- Plain facts on instances: the order of faults, and what is spoilt; no program. -/
import Derived.Test.YtogpnkahgkidpaaCanonPlain
namespace Go.Canon
/-! The order of faults. -/
def key (p : Nat × Nat) : Nat := if p.1 ≤ 8 then p.1 else 20 + 20 * p.2 + p.1
def fullN : Nat → List (Nat × Nat)
  | 0 => []
  | i + 1 => fullN i ++ [(9, i), (10, i), (11, i), (12, i), (13, i)]
def fullH : List (Nat × Nat) := [(1, 0), (2, 0), (3, 0), (4, 0), (5, 0), (6, 0)]
theorem says_in (b : Bool) (f n : Nat) : (says b f n).Sublist [(f, n)] := by unfold says; cases b <;> simp
theorem heads_in (N : ByteArray → Bool) (x : Ins) : (heads N x).Sublist fullH :=
  (((((says_in _ 1 0).append (says_in _ 2 0)).append (says_in _ 3 0)).append (says_in _ 4 0)).append (says_in _ 5 0)).append (says_in _ 6 0)
theorem nodeF_in (x : Ins) (i : Nat) : (nodeF x i).Sublist [(9, i), (10, i), (11, i), (12, i), (13, i)] :=
  ((((says_in _ 9 i).append (says_in _ 10 i)).append (says_in _ 11 i)).append (says_in _ 12 i)).append (says_in _ 13 i)
theorem nodesF_in (x : Ins) (n : Nat) : (nodesF x n).Sublist (fullN n) := by
  induction n with
  | zero => exact List.Sublist.refl _
  | succ n ih => exact ih.append (nodeF_in x n)
theorem fullN_mem {n : Nat} {p : Nat × Nat} (h : p ∈ fullN n) : 9 ≤ p.1 ∧ p.1 ≤ 13 ∧ p.2 < n := by
  induction n with
  | zero => cases h
  | succ n ih =>
    rw [fullN, List.mem_append] at h
    rcases h with h | h
    · have := ih h; omega
    · simp only [List.mem_cons, List.not_mem_nil, or_false] at h
      rcases h with rfl | rfl | rfl | rfl | rfl <;> simp
theorem fullN_sorted (n : Nat) : (fullN n).Pairwise fun p f => key p < key f := by
  induction n with
  | zero => exact List.Pairwise.nil
  | succ n ih =>
    rw [fullN, List.pairwise_append]
    refine ⟨ih, by simp [key], ?_⟩
    intro p hp f hf
    have h1 := fullN_mem hp
    simp only [List.mem_cons, List.not_mem_nil, or_false] at hf
    rcases hf with rfl | rfl | rfl | rfl | rfl <;> simp only [key] <;> rw [if_neg (by omega), if_neg (by omega)] <;> omega
theorem check_in (N : ByteArray → Bool) (x : Ins) : (checkL N x).Sublist (fullH ++ [(7, 0)] ++ [(8, 0)] ++ fullN x.nodes.length) := by
  unfold checkL
  rw [List.append_assoc, List.append_assoc]
  refine (heads_in N x).append ?_
  split
  · exact List.sublist_append_left [(7, 0)] _
  · exact ((says_in _ 8 0).append (nodesF_in x _)).trans (List.sublist_append_right [(7, 0)] _)
theorem full_sorted (n : Nat) : (fullH ++ [(7, 0)] ++ [(8, 0)] ++ fullN n).Pairwise fun p f => key p < key f := by
  rw [List.pairwise_append]
  refine ⟨by simp [fullH, key], fullN_sorted n, ?_⟩
  intro p hp f hf
  have h1 := fullN_mem hf
  have h2 : p.1 ≤ 8 := by
    simp only [fullH, List.cons_append, List.nil_append, List.mem_cons, List.not_mem_nil, or_false] at hp
    rcases hp with rfl | rfl | rfl | rfl | rfl | rfl | rfl | rfl <;> simp
  simp only [key]
  rw [if_pos h2, if_neg (by omega)]
  omega
theorem check_sorted (N : ByteArray → Bool) (x : Ins) : (checkL N x).Pairwise fun p f => key p < key f := (full_sorted _).sublist (check_in N x)
theorem check_mem {N : ByteArray → Bool} {x : Ins} {p : Nat × Nat} (h : p ∈ checkL N x) : (1 ≤ p.1 ∧ p.1 ≤ 8 ∧ p.2 = 0) ∨ (9 ≤ p.1 ∧ p.1 ≤ 13 ∧ p.2 < x.nodes.length) := by
  have h := (check_in N x).subset h
  rw [List.mem_append] at h
  rcases h with h | h
  · simp only [fullH, List.cons_append, List.nil_append, List.mem_cons, List.not_mem_nil, or_false] at h
    rcases h with rfl | rfl | rfl | rfl | rfl | rfl | rfl | rfl <;> simp
  · exact .inr (fullN_mem h)
theorem check_most (N : ByteArray → Bool) (x : Ins) (n : Nat) (h : x.nodes.length ≤ n) : (checkL N x).length ≤ 8 + 5 * n := by
  have h1 := (check_in N x).length_le
  have h2 : ∀ k, (fullN k).length = 5 * k := by
    intro k
    induction k with
    | zero => rfl
    | succ k ih => rw [fullN, List.length_append, ih]; simp; omega
  simp only [List.length_append, h2, fullH, List.length_cons, List.length_nil] at h1
  omega
/-- What two faults that stand next to one another are. -/
theorem check_next {N : ByteArray → Bool} {x : Ins} {i : Nat} {p f : Nat × Nat} (hp : (checkL N x)[i]? = some p) (hf : (checkL N x)[i + 1]? = some f) : key p < key f := by
  obtain ⟨h1, e1⟩ := List.getElem?_eq_some_iff.1 hp
  obtain ⟨h2, e2⟩ := List.getElem?_eq_some_iff.1 hf
  have := List.pairwise_iff_getElem.1 (check_sorted N x) i (i + 1) h1 h2 (by omega)
  rwa [e1, e2] at this
/-! What is well-formed, and spoilt. -/
theorem says_nil {b : Bool} {f n : Nat} : says b f n = [] ↔ b = true := by unfold says; cases b <;> simp
theorem nodesF_nil {x : Ins} {n : Nat} : nodesF x n = [] ↔ ∀ i, i < n → nodeF x i = [] := by
  induction n with
  | zero => simp [nodesF]
  | succ n ih =>
    rw [nodesF, List.append_eq_nil_iff, ih]
    constructor
    · rintro ⟨h1, h2⟩ i hi
      rcases Nat.lt_or_ge i n with h | h
      · exact h1 i h
      · rw [show i = n by omega]; exact h2
    · exact fun h => ⟨fun i hi => h i (by omega), h n (by omega)⟩
structure Well (N : ByteArray → Bool) (x : Ins) : Prop where
  name : N x.name = true
  kind : kindB x.kind = true
  metric : metricB x.metric = true
  scale : scaleB x.metric x.scale = true
  cap : capB x.kind x.cap = true
  fleet : fleetB x.kind x.fleet = true
  lo : 1 ≤ x.nodes.length
  hi : x.nodes.length ≤ 400
  matrix : matrixB x = true
  nodes : ∀ i, i < x.nodes.length → coordB x.metric (at' x i) = true ∧ demandB x.kind i (at' x i) = true ∧ windowB x.kind (at' x i) = true ∧ serviceB x.kind (at' x i) = true ∧ mateB x i = true
theorem nodeF_nil {x : Ins} {i : Nat} : nodeF x i = [] ↔ coordB x.metric (at' x i) = true ∧ demandB x.kind i (at' x i) = true ∧ windowB x.kind (at' x i) = true ∧ serviceB x.kind (at' x i) = true ∧ mateB x i = true := by
  unfold nodeF
  simp only [List.append_eq_nil_iff, says_nil, and_assoc]
theorem well_iff {N : ByteArray → Bool} {x : Ins} : wellB N x = true ↔ Well N x := by
  unfold wellB
  rw [decide_eq_true_iff]
  unfold checkL heads
  simp only [List.append_eq_nil_iff, says_nil]
  constructor
  · rintro ⟨⟨⟨⟨⟨⟨h1, h2⟩, h3⟩, h4⟩, h5⟩, h6⟩, h⟩
    by_cases hn : x.nodes.length < 1 ∨ 400 < x.nodes.length
    · rw [if_pos hn] at h; cases h
    · rw [if_neg hn, List.append_eq_nil_iff, says_nil, nodesF_nil] at h
      exact ⟨h1, h2, h3, h4, h5, h6, by omega, by omega, h.1, fun i hi => nodeF_nil.1 (h.2 i hi)⟩
  · intro h
    refine ⟨⟨⟨⟨⟨⟨h.name, h.kind⟩, h.metric⟩, h.scale⟩, h.cap⟩, h.fleet⟩, ?_⟩
    have := h.lo
    have := h.hi
    rw [if_neg (by omega), List.append_eq_nil_iff, says_nil, nodesF_nil]
    exact ⟨h.matrix, fun i hi => nodeF_nil.2 (h.nodes i hi)⟩
theorem Well.tail {N : ByteArray → Bool} {x : Ins} (h : Well N x) : (if x.nodes.length < 1 ∨ 400 < x.nodes.length then [(7, 0)] else says (matrixB x) 8 0 ++ nodesF x x.nodes.length) = [] := by
  have h1 := h.lo
  have h2 := h.hi
  rw [if_neg (by omega), List.append_eq_nil_iff, says_nil, nodesF_nil]
  exact ⟨h.matrix, fun i hi => nodeF_nil.2 (h.nodes i hi)⟩
theorem says_true (f n : Nat) : says true f n = [] := rfl
theorem says_false (f n : Nat) : says false f n = [(f, n)] := rfl
theorem nodesF_same {x y : Ins} (h : ∀ i, nodeF y i = nodeF x i) (n : Nat) : nodesF y n = nodesF x n := by
  induction n with
  | zero => rfl
  | succ n ih => rw [nodesF, nodesF, ih, h]
theorem spoil_name {N : ByteArray → Bool} {x : Ins} {e : ByteArray} (h : Well N x) (he : N e = false) : checkL N { x with name := e } = [(1, 0)] := by
  have ht := h.tail
  unfold checkL heads
  simp only [he, h.kind, h.metric, h.scale, h.cap, h.fleet, says_true, says_false, List.append_nil, List.cons_append, List.nil_append]
  rw [show nodesF { x with name := e } x.nodes.length = nodesF x x.nodes.length from nodesF_same (x := x) (y := { x with name := e }) (fun i => rfl) _, show matrixB { x with name := e } = matrixB x from rfl, ht]
theorem spoil_scale {N : ByteArray → Bool} {x : Ins} (h : Well N x) : checkL N { x with scale := 7 } = [(4, 0)] := by
  have ht := h.tail
  unfold checkL heads
  have hs : scaleB x.metric 7 = false := by simp [scaleB]
  simp only [hs, h.name, h.kind, h.metric, h.cap, h.fleet, says_true, says_false, List.append_nil, List.cons_append, List.nil_append]
  rw [show nodesF { x with scale := 7 } x.nodes.length = nodesF x x.nodes.length from nodesF_same (x := x) (y := { x with scale := 7 }) (fun i => rfl) _, show matrixB { x with scale := 7 } = matrixB x from rfl, ht]
theorem spoil_cap {N : ByteArray → Bool} {x : Ins} (h : Well N x) : checkL N { x with cap := -1 } = [(5, 0)] := by
  have ht := h.tail
  unfold checkL heads
  have hs : capB x.kind (-1) = false := by unfold capB; split <;> simp
  simp only [hs, h.name, h.kind, h.metric, h.scale, h.fleet, says_true, says_false, List.append_nil, List.cons_append, List.nil_append]
  rw [show nodesF { x with cap := -1 } x.nodes.length = nodesF x x.nodes.length from nodesF_same (x := x) (y := { x with cap := -1 }) (fun i => rfl) _, show matrixB { x with cap := -1 } = matrixB x from rfl, ht]
theorem spoil_fleet {N : ByteArray → Bool} {x : Ins} (h : Well N x) : checkL N { x with fleet := 401 } = [(6, 0)] := by
  have ht := h.tail
  unfold checkL heads
  have hs : fleetB x.kind 401 = false := by unfold fleetB; split <;> simp
  simp only [hs, h.name, h.kind, h.metric, h.scale, h.cap, says_true, says_false, List.append_nil, List.cons_append, List.nil_append]
  rw [show nodesF { x with fleet := 401 } x.nodes.length = nodesF x x.nodes.length from nodesF_same (x := x) (y := { x with fleet := 401 }) (fun i => rfl) _, show matrixB { x with fleet := 401 } = matrixB x from rfl, ht]
/-! One node spoilt. -/
theorem at_set {x : Ins} {i : Nat} (d : Nd) (hi : i < x.nodes.length) (j : Nat) : at' { x with nodes := x.nodes.set i d } j = if j = i then d else at' x j := by
  unfold at' List.getD
  simp only [List.getElem?_set]
  by_cases h : j = i
  · subst h; simp [hi]
  · rw [if_neg (fun e => h e.symm), if_neg h]
theorem mate_set {x : Ins} {i : Nat} {d : Nd} (hi : i < x.nodes.length) (h1 : d.demand = (at' x i).demand) (h2 : d.mate = (at' x i).mate) (j : Nat) : mateB { x with nodes := x.nodes.set i d } j = mateB x j := by
  have k1 : ∀ j, (at' { x with nodes := x.nodes.set i d } j).demand = (at' x j).demand := fun j => by
    rw [at_set d hi]; split
    · rename_i e; rw [e]; exact h1
    · rfl
  have k2 : ∀ j, (at' { x with nodes := x.nodes.set i d } j).mate = (at' x j).mate := fun j => by
    rw [at_set d hi]; split
    · rename_i e; rw [e]; exact h2
    · rfl
  unfold mateB
  simp only [k1, k2, List.length_set]
theorem nodesF_set {x : Ins} {i f : Nat} {d : Nd} (hn : ∀ j, j < x.nodes.length → nodeF x j = []) (hj : ∀ j, j ≠ i → nodeF { x with nodes := x.nodes.set i d } j = nodeF x j) (hf : nodeF { x with nodes := x.nodes.set i d } i = [(f, i)]) : ∀ n, n ≤ x.nodes.length → nodesF { x with nodes := x.nodes.set i d } n = if i < n then [(f, i)] else [] := by
  intro n
  induction n with
  | zero => intro _; rfl
  | succ n ih =>
    intro hle
    rw [nodesF, ih (by omega)]
    by_cases h : n = i
    · subst h
      rw [hf, if_neg (Nat.lt_irrefl _), if_pos (Nat.lt_succ_self _)]; rfl
    · rw [hj n h, hn n (by omega), List.append_nil]
      by_cases h2 : i < n
      · rw [if_pos h2, if_pos (by omega)]
      · rw [if_neg h2, if_neg (by omega)]
theorem spoil_node {N : ByteArray → Bool} {x : Ins} {i f : Nat} {d : Nd} (h : Well N x) (hi : i < x.nodes.length) (h1 : d.demand = (at' x i).demand) (h2 : d.mate = (at' x i).mate) (hf : nodeF { x with nodes := x.nodes.set i d } i = [(f, i)]) : checkL N { x with nodes := x.nodes.set i d } = [(f, i)] := by
  have hm := h.matrix
  have hlo := h.lo
  have hhi := h.hi
  have hm2 : matrixB { x with nodes := x.nodes.set i d } = true := by
    unfold matrixB at hm ⊢
    simp only [List.length_set]
    exact hm
  have hns := nodesF_set (d := d) (fun j hj => nodeF_nil.2 (h.nodes j hj)) (fun j hj => by
    unfold nodeF
    simp only [at_set d hi, if_neg hj, mate_set hi h1 h2]) hf x.nodes.length (Nat.le_refl _)
  unfold checkL heads
  simp only [h.name, h.kind, h.metric, h.scale, h.cap, h.fleet, says_true, List.append_nil, List.nil_append, List.length_set]
  rw [if_neg (by omega), hm2, hns, if_pos hi]
  rfl
/-- A node too far away; one that can't be served. -/
def farNd (d : Nd) : Nd := ⟨100000001, d.y, d.demand, d.ready, d.due, d.service, d.mate⟩
def slowNd (d : Nd) : Nd := ⟨d.x, d.y, d.demand, d.ready, d.due, -1, d.mate⟩
theorem spoil_coord {N : ByteArray → Bool} {x : Ins} {i : Nat} (h : Well N x) (hi : i < x.nodes.length) : checkL N { x with nodes := x.nodes.set i (farNd (at' x i)) } = [(9, i)] := by
  refine spoil_node h hi rfl rfl ?_
  obtain ⟨_, k2, k3, k4, k5⟩ := h.nodes i hi
  unfold nodeF
  rw [mate_set (d := farNd (at' x i)) hi rfl rfl, at_set _ hi, if_pos rfl, k5]
  have e1 : coordB x.metric (farNd (at' x i)) = false := by simp [coordB, signed, farNd]
  have e2 : demandB x.kind i (farNd (at' x i)) = true := k2
  have e3 : windowB x.kind (farNd (at' x i)) = true := k3
  have e4 : serviceB x.kind (farNd (at' x i)) = true := k4
  simp only [e1, e2, e3, e4, says_true, says_false, List.append_nil]
theorem spoil_service {N : ByteArray → Bool} {x : Ins} {i : Nat} (h : Well N x) (hi : i < x.nodes.length) : checkL N { x with nodes := x.nodes.set i (slowNd (at' x i)) } = [(12, i)] := by
  refine spoil_node h hi rfl rfl ?_
  obtain ⟨k1, k2, k3, _, k5⟩ := h.nodes i hi
  unfold nodeF
  rw [mate_set (d := slowNd (at' x i)) hi rfl rfl, at_set _ hi, if_pos rfl, k5]
  have e1 : coordB x.metric (slowNd (at' x i)) = true := k1
  have e2 : demandB x.kind i (slowNd (at' x i)) = true := k2
  have e3 : windowB x.kind (slowNd (at' x i)) = true := k3
  have e4 : serviceB x.kind (slowNd (at' x i)) = false := by unfold serviceB number slowNd; split <;> simp
  simp only [e1, e2, e3, e4, says_true, says_false, List.append_nil, List.nil_append]
#print axioms spoil_coord
#print axioms spoil_service
#print axioms spoil_name
#print axioms check_next
#print axioms well_iff
end Go.Canon
