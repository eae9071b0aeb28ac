/- Plain facts: what is told is of this plan, and of one route nothing is told of load, or of lateness, twice. No program. -/
import Derived.Test.YthgagmndefaniaaG29
namespace Go.Feas
open Go.Canon Go.Plans
/-- What a wrong that is told says of the plan. -/
structure Told (rr : Rts) (w : Wr) : Prop where
  code : 1 ≤ w.1 ∧ w.1 ≤ 8
  route : 0 ≤ w.2.1
  miss : w.1 = 3 → countR rr w.2.2 = 0
  twice : w.1 = 2 → 2 ≤ countR rr w.2.2
  stands : w.1 ≠ 2 → w.1 ≠ 3 → w.1 ≠ 4 → ¬(w.1 = 6 ∧ w.2.2 = 0) → ∃ r, rr[w.2.1.toNat]? = some r ∧ w.2.2 ∈ r
/-- Of two of them, one ahead of the other. -/
def Apart (a b : Wr) : Prop := (a.1 = b.1 → a.2.1 = b.2.1 → a.1 ≠ 4 ∧ a.1 ≠ 5 ∧ a.1 ≠ 6) ∧ (a.1 = 1 ↔ b.1 = 1)
theorem unks_mem {x : Ins} {w : Wr} : ∀ {rr : Rts} {i : Nat}, w ∈ unks x i rr → ∃ j r, rr[j]? = some r ∧ w.2.2 ∈ r ∧ w.1 = 1 ∧ w.2.1 = ((i + j : Nat) : Int)
  | [], i, h => by cases h
  | r :: rr, i, h => by
    rw [unks, List.mem_append] at h
    rcases h with h | h
    · unfold unkR at h
      obtain ⟨s, hs, rfl⟩ := List.mem_map.1 h
      exact ⟨0, r, rfl, (List.mem_filter.1 hs).1, rfl, rfl⟩
    · obtain ⟨j, q, h1, h2, h3, h4⟩ := unks_mem h
      exact ⟨j + 1, q, h1, h2, h3, by rw [h4]; congr 1; omega⟩
theorem cnts_mem {rr : Rts} {lo : Nat} {w : Wr} : ∀ {n : Nat}, w ∈ cnts lo rr n → (w.1 = 2 ∧ 2 ≤ countR rr w.2.2 ∨ w.1 = 3 ∧ countR rr w.2.2 = 0) ∧ w.2.1 = 0
  | 0, h => by cases h
  | n + 1, h => by
    rw [cnts, List.mem_append] at h
    rcases h with h | h
    · exact cnts_mem h
    · split at h
      · unfold cntW at h
        split at h
        · rename_i h1
          rw [List.mem_singleton.1 h]
          exact ⟨.inl ⟨rfl, h1⟩, rfl⟩
        · split at h
          · rename_i h1
            rw [List.mem_singleton.1 h]
            exact ⟨.inr ⟨rfl, h1⟩, rfl⟩
          · cases h
      · cases h
theorem fleet_mem {x : Ins} {rr : Rts} {w : Wr} (h : w ∈ fleetW x rr) : w.1 = 4 ∧ w.2.1 = 0 := by
  unfold fleetW at h
  split at h
  · split at h
    · rw [List.mem_singleton.1 h]; exact ⟨rfl, rfl⟩
    · cases h
  · split at h
    · rw [List.mem_singleton.1 h]; exact ⟨rfl, rfl⟩
    · cases h
theorem loads_le (x : Ins) (r : List Int) : (loads x r).length ≤ r.length := by
  unfold loads
  split
  · rw [loadsF_length]; exact Nat.le_refl _
  · exact Nat.zero_le _
theorem getD_mem {r : List Int} {k : Nat} (h : k < r.length) : r.getD k 0 ∈ r := by
  rw [List.getD_eq_getElem?_getD, List.getElem?_eq_getElem h]
  exact List.getElem_mem h
theorem load_mem {x : Ins} {i : Nat} {r : List Int} {w : Wr} (h : w ∈ loadW x i r) : w.1 = 5 ∧ w.2.1 = (i : Int) ∧ w.2.2 ∈ r := by
  unfold loadW at h
  cases hf : (loads x r).findIdx? (overB x) with
  | none => rw [hf] at h; cases h
  | some k =>
    rw [hf] at h
    rw [List.mem_singleton.1 h]
    have hk := (List.findIdx?_eq_some_iff_getElem.1 hf).1
    exact ⟨rfl, rfl, getD_mem (Nat.lt_of_lt_of_le hk (loads_le x r))⟩
theorem late_mem {x : Ins} {i : Nat} {r : List Int} {w : Wr} (h : w ∈ lateW x i r) : w.1 = 6 ∧ w.2.1 = (i : Int) ∧ (w.2.2 ∈ r ∨ w.2.2 = 0) := by
  unfold lateW at h
  split at h
  · rename_i h1
    rw [List.mem_singleton.1 h]
    exact ⟨rfl, rfl, .inl (getD_mem (by omega))⟩
  · split at h
    · rw [List.mem_singleton.1 h]; exact ⟨rfl, rfl, .inr rfl⟩
    · cases h
theorem pairs_mem {x : Ins} {i : Nat} {r : List Int} {w : Wr} : ∀ {k : Nat}, k ≤ r.length → w ∈ pairsW x i r k → (w.1 = 7 ∨ w.1 = 8) ∧ w.2.1 = (i : Int) ∧ w.2.2 ∈ r
  | 0, _, h => by cases h
  | k + 1, hk, h => by
    rw [pairsW, List.mem_append] at h
    rcases h with h | h
    · exact pairs_mem (by omega) h
    · unfold pairK at h
      split at h
      · cases h
      · split at h
        · rw [List.mem_singleton.1 h]; exact ⟨.inr rfl, rfl, getD_mem (by omega)⟩
        · rw [List.mem_singleton.1 h]; exact ⟨.inl rfl, rfl, getD_mem (by omega)⟩
theorem route_mem {x : Ins} {i : Nat} {r : List Int} {w : Wr} (h : w ∈ routeW x i r) : 5 ≤ w.1 ∧ w.1 ≤ 8 ∧ w.2.1 = (i : Int) ∧ (w.2.2 ∈ r ∨ w.1 = 6 ∧ w.2.2 = 0) := by
  unfold routeW at h
  rw [List.mem_append] at h
  rcases h with h | h
  · have := load_mem h
    exact ⟨by omega, by omega, this.2.1, .inl this.2.2⟩
  · split at h
    · cases h
    · rw [List.mem_append] at h
      rcases h with h | h
      · have := late_mem h
        exact ⟨by omega, by omega, this.2.1, this.2.2.imp id fun e => ⟨this.1, e⟩⟩
      · split at h
        · cases h
        · have := pairs_mem (Nat.le_refl _) h
          exact ⟨by omega, by omega, this.2.1, .inl this.2.2⟩
theorem routes_mem {x : Ins} {w : Wr} : ∀ {rr : Rts} {i : Nat}, w ∈ routesW x i rr → ∃ j r, rr[j]? = some r ∧ w ∈ routeW x (i + j) r
  | [], i, h => by cases h
  | r :: rr, i, h => by
    rw [routesW, List.mem_append] at h
    rcases h with h | h
    · exact ⟨0, r, rfl, h⟩
    · obtain ⟨j, q, h1, h2⟩ := routes_mem h
      exact ⟨j + 1, q, h1, by rw [show i + (j + 1) = i + 1 + j by omega]; exact h2⟩
theorem check_told {x : Ins} {rr : Rts} {w : Wr} (h : w ∈ checkW x rr) : Told rr w := by
  unfold checkW at h
  split at h
  · obtain ⟨j, r, h1, h2, h3, h4⟩ := unks_mem h
    refine ⟨by omega, by omega, by omega, by omega, fun _ _ _ _ => ⟨r, ?_, h2⟩⟩
    rw [h4, Nat.zero_add, Int.toNat_natCast]; exact h1
  · rw [List.mem_append, List.mem_append] at h
    rcases h with h | h | h
    · obtain ⟨h1, h2⟩ := cnts_mem h
      rcases h1 with ⟨h1, h3⟩ | ⟨h1, h3⟩
      · exact ⟨by omega, by omega, by omega, fun _ => h3, fun h4 => absurd h1 h4⟩
      · exact ⟨by omega, by omega, fun _ => h3, by omega, fun _ h4 => absurd h1 h4⟩
    · obtain ⟨h1, h2⟩ := fleet_mem h
      exact ⟨by omega, by omega, by omega, by omega, fun _ _ h4 => absurd h1 h4⟩
    · split at h
      · cases h
      · obtain ⟨j, r, h1, h2⟩ := routes_mem h
        obtain ⟨h3, h4, h5, h6⟩ := route_mem h2
        refine ⟨by omega, by omega, by omega, by omega, fun _ _ _ h7 => ⟨r, ?_, h6.resolve_right h7⟩⟩
        rw [h5, Nat.zero_add, Int.toNat_natCast]; exact h1
theorem pair_all {R : Wr → Wr → Prop} : ∀ {l : List Wr}, (∀ a ∈ l, ∀ b ∈ l, R a b) → l.Pairwise R
  | [], _ => List.Pairwise.nil
  | a :: _, h => List.Pairwise.cons (fun b hb => h a (List.mem_cons_self) b (List.mem_cons_of_mem _ hb)) (pair_all fun c hc d hd => h c (List.mem_cons_of_mem _ hc) d (List.mem_cons_of_mem _ hd))
theorem pair_one {R : Wr → Wr → Prop} : ∀ {l : List Wr}, l.length ≤ 1 → l.Pairwise R
  | [], _ => List.Pairwise.nil
  | [_], _ => List.Pairwise.cons (fun b hb => by cases hb) List.Pairwise.nil
  | _ :: _ :: _, h => absurd h (by simp)
theorem route_pair (x : Ins) (i : Nat) (r : List Int) : (routeW x i r).Pairwise Apart := by
  have hload : (loadW x i r).length ≤ 1 := by unfold loadW; split <;> simp
  have hlate : (lateW x i r).length ≤ 1 := by
    unfold lateW; split
    · simp
    · split <;> simp
  unfold routeW
  rw [List.pairwise_append]
  refine ⟨pair_one hload, ?_, fun a ha b hb => ?_⟩
  · split
    · exact List.Pairwise.nil
    · rw [List.pairwise_append]
      refine ⟨pair_one hlate, ?_, fun a ha b hb => ?_⟩
      · split
        · exact List.Pairwise.nil
        · refine pair_all fun a ha b hb => ?_
          have h1 := (pairs_mem (Nat.le_refl _) ha).1
          have h2 := (pairs_mem (Nat.le_refl _) hb).1
          exact ⟨by omega, by omega⟩
      · split at hb
        · cases hb
        · have h1 := (late_mem ha).1
          have h2 := (pairs_mem (Nat.le_refl _) hb).1
          exact ⟨by omega, by omega⟩
  · have h1 := (load_mem ha).1
    split at hb
    · cases hb
    · rw [List.mem_append] at hb
      rcases hb with hb | hb
      · have h2 := (late_mem hb).1
        exact ⟨by omega, by omega⟩
      · split at hb
        · cases hb
        · have h2 := (pairs_mem (Nat.le_refl _) hb).1
          exact ⟨by omega, by omega⟩
theorem routes_pair (x : Ins) : ∀ (rr : Rts) (i : Nat), (routesW x i rr).Pairwise Apart
  | [], _ => List.Pairwise.nil
  | r :: rr, i => by
    rw [routesW, List.pairwise_append]
    refine ⟨route_pair x i r, routes_pair x rr (i + 1), fun a ha b hb => ?_⟩
    obtain ⟨j, q, _, h2⟩ := routes_mem hb
    have h3 := route_mem ha
    have h4 := route_mem h2
    exact ⟨by omega, by omega⟩
theorem check_pair (x : Ins) (rr : Rts) : (checkW x rr).Pairwise Apart := by
  unfold checkW
  split
  · refine pair_all fun a ha b hb => ?_
    obtain ⟨_, _, _, _, h1, _⟩ := unks_mem ha
    obtain ⟨_, _, _, _, h2, _⟩ := unks_mem hb
    exact ⟨by omega, by omega⟩
  · rw [List.pairwise_append]
    refine ⟨?_, ?_, fun a ha b hb => ?_⟩
    · refine pair_all fun a ha b hb => ?_
      have h1 := (cnts_mem ha).1
      have h2 := (cnts_mem hb).1
      exact ⟨by omega, by omega⟩
    · rw [List.pairwise_append]
      refine ⟨?_, ?_, fun a ha b hb => ?_⟩
      · refine pair_one ?_
        unfold fleetW
        split
        · split <;> simp
        · split <;> simp
      · split
        · exact List.Pairwise.nil
        · exact routes_pair x rr 0
      · have h1 := fleet_mem ha
        split at hb
        · cases hb
        · obtain ⟨j, q, _, h2⟩ := routes_mem hb
          have h4 := route_mem h2
          exact ⟨by omega, by omega⟩
    · have h1 := (cnts_mem ha).1
      rw [List.mem_append] at hb
      rcases hb with hb | hb
      · have h2 := fleet_mem hb
        exact ⟨by omega, by omega⟩
      · split at hb
        · cases hb
        · obtain ⟨j, q, _, h2⟩ := routes_mem hb
          have h4 := route_mem h2
          exact ⟨by omega, by omega⟩
theorem check_apart {x : Ins} {rr : Rts} {k i : Nat} {a b : Wr} (ha : (checkW x rr)[k]? = some a) (hb : (checkW x rr)[i]? = some b) (h : k < i) : Apart a b := by
  obtain ⟨h1, h2⟩ := List.getElem?_eq_some_iff.1 ha
  obtain ⟨h3, h4⟩ := List.getElem?_eq_some_iff.1 hb
  rw [← h2, ← h4]
  exact List.pairwise_iff_getElem.1 (check_pair x rr) k i h1 h3 h
#print axioms check_told
#print axioms check_apart
end Go.Feas
