/- Plain facts: each customer is one stop just if the stops are customers, all different, and as many; deliveries behind their pickups. No program. -/
import Derived.Test.YthgagmndefaniaaFeasGoesM
namespace Go.Feas
open Go.Canon Go.Plans
theorem nodup_count : ∀ {l : List Int}, l.Pairwise (· ≠ ·) ↔ ∀ a, l.count a ≤ 1
  | [] => ⟨fun _ a => by simp, fun _ => List.Pairwise.nil⟩
  | b :: l => by
    rw [List.pairwise_cons, nodup_count]
    constructor
    · intro ⟨h1, h2⟩ a
      rw [List.count_cons]
      by_cases e : b = a
      · subst e
        have : l.count b = 0 := List.count_eq_zero.2 fun hb => h1 b hb rfl
        simp [this]
      · have : (b == a) = false := by simpa using e
        rw [this]
        have := h2 a
        simpa using this
    · intro h
      refine ⟨fun a ha e => ?_, fun a => ?_⟩
      · subst e
        have h1 := h b
        have h2 : 0 < l.count b := List.count_pos_iff.2 ha
        rw [List.count_cons] at h1
        simp at h1
        omega
      · have h1 := h a
        rw [List.count_cons] at h1
        omega
theorem sum_same {f g : Nat → Nat} : ∀ n, (∀ c, c < n → f c ≤ g c) → ((List.range n).map f).sum = ((List.range n).map g).sum → ∀ c, c < n → f c = g c
  | 0, _, _, c, h => by omega
  | n + 1, h, hs, c, hc => by
    have le : ∀ m, m ≤ n → ((List.range m).map f).sum ≤ ((List.range m).map g).sum := by
      intro m
      induction m with
      | zero => intro _; exact Nat.le_refl _
      | succ m ih =>
        intro hm
        rw [List.range_succ, List.map_append, List.map_append, List.sum_append, List.sum_append]
        have := ih (by omega)
        have := h m (by omega)
        simp only [List.map_cons, List.map_nil, List.sum_cons, List.sum_nil]
        omega
    have h1 := le n (Nat.le_refl _)
    have h2 := h n (Nat.lt_succ_self _)
    rw [List.range_succ, List.map_append, List.map_append, List.sum_append, List.sum_append] at hs
    simp only [List.map_cons, List.map_nil, List.sum_cons, List.sum_nil] at hs
    by_cases e : c = n
    · subst e; omega
    · exact sum_same n (fun c hc => h c (by omega)) (by omega) c (by omega)
def ones (lo c : Nat) : Nat := if lo ≤ c then 1 else 0
theorem ones_sum (lo : Nat) : ∀ n, ((List.range n).map (ones lo)).sum = n - lo
  | 0 => by simp
  | n + 1 => by
    rw [List.range_succ, List.map_append, List.sum_append, ones_sum lo n]
    simp only [List.map_cons, List.map_nil, List.sum_cons, List.sum_nil, ones]
    split <;> omega
/-- Each customer is one stop. -/
structure Cover (x : Ins) (rr : Rts) : Prop where
  range : ∀ s ∈ rr.flatten, (least x : Int) ≤ s ∧ s < x.nodes.length
  once : rr.flatten.Pairwise (· ≠ ·)
  many : rr.flatten.length = x.nodes.length - least x
theorem unks_nil {x : Ins} {rr : Rts} : unks x 0 rr = [] ↔ ∀ s ∈ rr.flatten, (least x : Int) ≤ s ∧ s < x.nodes.length := by
  rw [← List.length_eq_zero_iff, unks_count, List.length_eq_zero_iff, List.filter_eq_nil_iff]
  refine forall_congr' fun s => forall_congr' fun _ => ?_
  simp only [badB, Bool.or_eq_true, decide_eq_true_eq, not_or]
  omega
theorem cnts_nil {rr : Rts} {lo : Nat} : ∀ {n : Nat}, cnts lo rr n = [] ↔ ∀ c, c < n → lo ≤ c → countR rr (c : Int) = 1
  | 0 => ⟨fun _ c h => by omega, fun _ => rfl⟩
  | n + 1 => by
    rw [cnts, List.append_eq_nil_iff, cnts_nil]
    have h1 : (if lo ≤ n then cntW n (countR rr (n : Int)) else []) = [] ↔ (lo ≤ n → countR rr (n : Int) = 1) := by
      by_cases h : lo ≤ n
      · rw [if_pos h]
        unfold cntW
        by_cases h2 : 1 < countR rr (n : Int)
        · rw [if_pos h2]; exact ⟨fun e => (by cases e), fun e => (by have := e h; omega)⟩
        · rw [if_neg h2]
          by_cases h3 : countR rr (n : Int) = 0
          · rw [if_pos h3]; exact ⟨fun e => (by cases e), fun e => (by have := e h; omega)⟩
          · rw [if_neg h3]; exact ⟨fun _ _ => by omega, fun _ => rfl⟩
      · rw [if_neg h]; exact ⟨fun _ h2 => absurd h2 h, fun _ => rfl⟩
    rw [h1]
    constructor
    · intro ⟨h2, h3⟩ c hc
      by_cases e : c = n
      · subst e; exact h3
      · exact h2 c (by omega)
    · intro h
      exact ⟨fun c hc => h c (by omega), h n (Nat.lt_succ_self _)⟩
theorem cover_iff {x : Ins} {rr : Rts} : Cover x rr ↔ unks x 0 rr = [] ∧ cnts (least x) rr x.nodes.length = [] := by
  rw [unks_nil, cnts_nil]
  have key : (∀ s ∈ rr.flatten, (least x : Int) ≤ s ∧ s < x.nodes.length) → ((List.range x.nodes.length).map fun (c : Nat) => countR rr (c : Int)).sum = rr.flatten.length := fun h => by
    rw [counts_all (n := x.nodes.length) (fun s hs => by have := h s hs; omega), many_flat]
  have low : (∀ s ∈ rr.flatten, (least x : Int) ≤ s ∧ s < x.nodes.length) → ∀ c : Nat, c < least x → countR rr (c : Int) = 0 := fun h c hc => by
    rw [countR_flat, List.count_eq_zero]
    intro hm
    have := h _ hm
    omega
  constructor
  · intro h
    refine ⟨h.range, fun c hc hl => ?_⟩
    have h1 := sum_same (f := fun (c : Nat) => countR rr (c : Int)) (g := ones (least x)) x.nodes.length (fun c _ => by
      unfold ones
      split
      · rw [countR_flat]; exact nodup_count.1 h.once _
      · rename_i h2; rw [low h.range c (by omega)]; exact Nat.le_refl _) (by rw [key h.range, ones_sum, h.many]) c hc
    have h2 : ones (least x) c = 1 := if_pos hl
    exact h1.trans h2
  · intro ⟨h1, h2⟩
    refine ⟨h1, nodup_count.2 fun a => ?_, ?_⟩
    · by_cases hm : a ∈ rr.flatten
      · have h3 := h1 a hm
        obtain ⟨c, rfl⟩ : ∃ c : Nat, a = (c : Int) := ⟨a.toNat, by omega⟩
        have := h2 c (by omega) (by omega)
        rw [countR_flat] at this
        omega
      · rw [List.count_eq_zero.2 hm]; omega
    · rw [← key h1, ← ones_sum (least x) x.nodes.length]
      congr 1
      apply List.map_congr_left
      intro c hc
      have hc := List.mem_range.1 hc
      unfold ones
      split
      · rename_i h3; exact h2 c hc h3
      · rename_i h3; exact low h1 c (by omega)
theorem flat_place {rr : Rts} {j k j' k' : Nat} {r r' : List Int} {s : Int} (h : rr.flatten.Pairwise (· ≠ ·)) (hr : rr[j]? = some r) (hk : r[k]? = some s) (hr' : rr[j']? = some r') (hk' : r'[k']? = some s) : j = j' ∧ k = k' := by
  have h1 := pflat_get hr hk
  have h2 := pflat_get hr' hk'
  have l1 := (List.getElem?_eq_some_iff.1 hk).1
  have l2 := (List.getElem?_eq_some_iff.1 hk').1
  have heq : many (rr.take j) + k = many (rr.take j') + k' := by
    obtain ⟨b1, e1⟩ := List.getElem?_eq_some_iff.1 h1
    obtain ⟨b2, e2⟩ := List.getElem?_eq_some_iff.1 h2
    have hp := List.pairwise_iff_getElem.1 h
    rcases Nat.lt_trichotomy (many (rr.take j) + k) (many (rr.take j') + k') with hlt | he | hlt
    · exact absurd (e1.trans e2.symm) (hp _ _ b1 b2 hlt)
    · exact he
    · exact absurd (e2.trans e1.symm) (hp _ _ b2 b1 hlt)
  have step : ∀ {a b : Nat} {q : List Int}, rr[a]? = some q → a < b → many (rr.take a) + q.length ≤ many (rr.take b) := by
    intro a b q hq hab
    have e : many (rr.take (a + 1)) = many (rr.take a) + q.length := by rw [List.take_add_one, hq, many_append]; simp [Plans.many]
    have h3 := many_append (rr.take (a + 1)) ((rr.take b).drop (a + 1))
    have e2 : rr.take (a + 1) = (rr.take b).take (a + 1) := by rw [List.take_take]; congr 1; omega
    rw [e2, List.take_append_drop, ← e2] at h3
    omega
  have hj : j = j' := by
    rcases Nat.lt_trichotomy j j' with hlt | he | hlt
    · have := step hr hlt; omega
    · exact he
    · have := step hr' hlt; omega
  subst hj
  exact ⟨rfl, by omega⟩
/-- Where pickups are ahead of their mates on all routes, deliveries are behind theirs. -/
theorem behind_all {N : ByteArray → Bool} {x : Ins} (hw : Well N x) (h4 : x.kind = 4) {rr : Rts} (hc : Cover x rr) (hp : ∀ r ∈ rr, Paired x r) {r : List Int} (hr : r ∈ rr) {k : Nat} {s : Int} (hk : r[k]? = some s) (hd : (nd x s).demand < 0) : (nd x s).mate ∈ r.take k := by
  have hl : least x = 1 := by unfold least; rw [if_neg (by omega)]
  obtain ⟨j, hj⟩ := List.getElem?_of_mem hr
  have hs := hc.range s (List.mem_flatten.2 ⟨r, hr, List.mem_of_getElem? hk⟩)
  rw [hl] at hs
  obtain ⟨i, rfl⟩ : ∃ i : Nat, s = (i : Int) := ⟨s.toNat, by omega⟩
  have hm := (hw.nodes i (by omega)).2.2.2.2
  have hd' : (at' x i).demand < 0 := hd
  unfold mateB at hm
  rw [if_neg (by omega)] at hm
  split at hm
  · cases hm
  · rename_i hno
    simp only [not_or, Int.not_lt, Int.not_le, ne_eq, Classical.not_not] at hno
    simp only [Bool.and_eq_true, decide_eq_true_eq] at hm
    obtain ⟨n1, n2, n3, n4⟩ := hno
    obtain ⟨m, hmm⟩ : ∃ m : Nat, (at' x i).mate = (m : Int) := ⟨(at' x i).mate.toNat, by omega⟩
    rw [hmm, Int.toNat_natCast] at hm n4
    have hb := (fine_of hw).demand i
    have hpos : 0 < (at' x m).demand := by
      rw [hm.2]; unfold neg64; split <;> omega
    have hcm : countR rr (m : Int) = 1 := by
      have := (cover_iff.1 hc).2
      rw [cnts_nil] at this
      exact this m (by omega) (by omega)
    have hin : (m : Int) ∈ rr.flatten := by
      rw [countR_flat] at hcm
      exact List.count_pos_iff.1 (by omega)
    obtain ⟨r', hr', hm'⟩ := List.mem_flatten.1 hin
    obtain ⟨j', hj'⟩ := List.getElem?_of_mem hr'
    obtain ⟨k', hk'⟩ := List.getElem?_of_mem hm'
    have hlt := (List.getElem?_eq_some_iff.1 hk').1
    have hq := hp r' hr' k' hlt
    have e : r'.getD k' 0 = (m : Int) := by rw [List.getD_eq_getElem?_getD, hk']; rfl
    rw [e] at hq
    have e2 : nd x (m : Int) = at' x m := rfl
    rw [e2, n4] at hq
    have hq2 := hq.resolve_left (by omega)
    obtain ⟨t, ht⟩ := List.getElem?_of_mem hq2
    rw [List.getElem?_drop] at ht
    obtain ⟨hjj, hkk⟩ := flat_place hc.once hj hk hj' ht
    subst hjj
    rw [hj] at hj'
    have hrr : r = r' := Option.some.inj hj'
    subst hrr
    show (at' x i).mate ∈ r.take k
    rw [hmm]
    refine List.mem_of_getElem? (i := k') ?_
    rw [List.getElem?_take, if_pos (by omega)]
    exact hk'
/-- Each step of a route goes. -/
structure Goes (x : Ins) (r : List Int) : Prop where
  holds : ∀ k s, r[k]? = some s → Holds x (r.take k) s
  time : x.kind ≠ 2 → (∀ k s, r[k]? = some s → InTime x (r.take k) s) ∧ Home x r
  order : x.kind = 4 → ∀ k s, r[k]? = some s → (0 < (nd x s).demand → (nd x s).mate ∈ r.drop (k + 1)) ∧ ((nd x s).demand < 0 → (nd x s).mate ∈ r.take k)
theorem cover_nodes {x : Ins} {rr : Rts} (h : Cover x rr) {r : List Int} (hr : r ∈ rr) : nodesB x r = true := by
  unfold nodesB
  rw [List.all_eq_true]
  intro s hs
  have := h.range s (List.mem_flatten.2 ⟨r, hr, hs⟩)
  simp only [nodeB, Bool.and_eq_true, decide_eq_true_eq]
  omega
theorem goes_all {N : ByteArray → Bool} {x : Ins} (hw : Well N x) (h1 : x.kind ≠ 1) {rr : Rts} (hc : Cover x rr) : routesW x 0 rr = [] ↔ ∀ r ∈ rr, Goes x r := by
  have hk := hw.kind
  simp only [kindB, Bool.and_eq_true, decide_eq_true_eq] at hk
  rw [routes_all]
  constructor
  · intro h
    have hal : ∀ r ∈ rr, (∀ k s, r[k]? = some s → Holds x (r.take k) s) ∧ (x.kind ≠ 2 → (∀ k s, r[k]? = some s → InTime x (r.take k) s) ∧ Home x r) ∧ (x.kind ≠ 2 → x.kind ≠ 3 → Paired x r) := fun r hr => by
      obtain ⟨j, hj⟩ := List.getElem?_of_mem hr
      exact (route_all (0 + j) (cover_nodes hc hr)).1 (h j r hj)
    intro r hr
    refine ⟨(hal r hr).1, (hal r hr).2.1, fun h4 k s hks => ⟨fun hd => ?_, fun hd => behind_all hw h4 hc (fun q hq => (hal q hq).2.2 (by omega) (by omega)) hr hks hd⟩⟩
    have hlt := (List.getElem?_eq_some_iff.1 hks).1
    have hp := (hal r hr).2.2 (by omega) (by omega) k hlt
    have e : r.getD k 0 = s := by rw [List.getD_eq_getElem?_getD, hks]; rfl
    rw [e] at hp
    exact hp.resolve_left (by omega)
  · intro h j r hj
    have hr := List.mem_of_getElem? hj
    refine (route_all (0 + j) (cover_nodes hc hr)).2 ⟨(h r hr).holds, (h r hr).time, fun h2 h3 k hlt => ?_⟩
    have e : r.getD k 0 = r[k] := by rw [List.getD_eq_getElem?_getD, List.getElem?_eq_getElem hlt]; rfl
    rw [e]
    by_cases hd : (nd x r[k]).demand ≤ 0
    · exact .inl hd
    · exact .inr (((h r hr).order (by omega) k r[k] (List.getElem?_eq_getElem hlt)).1 (by omega))
theorem means_tour {x : Ins} (h1 : x.kind = 1) (rr : Rts) : feasB x rr = true ↔ Cover x rr ∧ full rr = 1 := by
  unfold feasB checkW
  rw [decide_eq_true_eq, cover_iff]
  by_cases hu : unks x 0 rr = []
  · rw [if_neg (by rw [hu]; simp), if_pos h1, List.append_nil, List.append_eq_nil_iff]
    have hf : fleetW x rr = [] ↔ full rr = 1 := by
      unfold fleetW
      rw [if_pos h1]
      by_cases h : full rr = 1
      · rw [if_neg (by omega)]; exact ⟨fun _ => h, fun _ => rfl⟩
      · rw [if_pos h]; exact ⟨fun e => (by cases e), fun e => absurd e h⟩
    rw [hf]
    exact ⟨fun h => ⟨⟨hu, h.1⟩, h.2⟩, fun h => ⟨h.1.2, h.2⟩⟩
  · rw [if_pos hu]
    exact ⟨fun h => absurd h hu, fun h => absurd h.1.1 hu⟩
theorem means_routes {N : ByteArray → Bool} {x : Ins} (hw : Well N x) (h1 : x.kind ≠ 1) (rr : Rts) : feasB x rr = true ↔ Cover x rr ∧ (x.fleet = 0 ∨ (full rr : Int) ≤ x.fleet) ∧ ∀ r ∈ rr, Goes x r := by
  have hf0 := (fine_of hw).fleet
  unfold feasB checkW
  rw [decide_eq_true_eq]
  by_cases hu : unks x 0 rr = []
  · rw [if_neg (by rw [hu]; simp), if_neg h1, List.append_eq_nil_iff, List.append_eq_nil_iff]
    have hf : fleetW x rr = [] ↔ (x.fleet = 0 ∨ (full rr : Int) ≤ x.fleet) := by
      unfold fleetW
      rw [if_neg h1]
      by_cases h : 0 < x.fleet ∧ x.fleet < (full rr : Int)
      · rw [if_pos h]; exact ⟨fun e => (by cases e), fun e => by omega⟩
      · rw [if_neg h]; exact ⟨fun _ => by omega, fun _ => rfl⟩
    rw [hf]
    constructor
    · intro ⟨h2, h3, h4⟩
      have hc := cover_iff.2 ⟨hu, h2⟩
      exact ⟨hc, h3, (goes_all hw h1 hc).1 h4⟩
    · intro ⟨hc, h3, h4⟩
      exact ⟨(cover_iff.1 hc).2, h3, (goes_all hw h1 hc).2 h4⟩
  · rw [if_pos hu]
    exact ⟨fun h => absurd h hu, fun h => absurd (cover_iff.1 h.1).1 hu⟩
#print axioms means_tour
#print axioms means_routes
#print axioms cover_iff
#print axioms behind_all
end Go.Feas
