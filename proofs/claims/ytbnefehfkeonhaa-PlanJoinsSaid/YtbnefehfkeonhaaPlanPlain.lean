/- Plain facts on plans: routes of stops, their normal form, what is counted and found; no program. -/
namespace Go.Plans
/-- Routes of stops. -/
abbrev Rts := List (List Int)
def many (rr : Rts) : Nat := (rr.map List.length).sum
def stopsIn (rr : Rts) : Bool := rr.all fun r => r.all fun s => decide (0 ≤ s) && decide (s ≤ 399)
/-- plan.Check: 0, ErrArg 1, ErrFull 2. -/
def checkE (rr : Rts) : Int := if 400 < rr.length ∨ 2000 < many rr then 2 else if stopsIn rr = true then 0 else 1
def normR (rr : Rts) : Rts := rr.filter fun r => !r.isEmpty
/-- The first place of a stop on a route. -/
def place (s : Int) : List Int → Option Nat
  | [] => none
  | a :: l => if a = s then some 0 else (place s l).map (· + 1)
/-- The first route with a stop, and its place there. -/
def findR (s : Int) : Rts → Option (Nat × Nat)
  | [] => none
  | r :: rr => match place s r with
    | some k => some (0, k)
    | none => (findR s rr).map fun p => (p.1 + 1, p.2)
def countR (rr : Rts) (c : Int) : Nat := (rr.map fun r => r.count c).sum
def countL (rr : Rts) (n : Nat) : List Int := (List.range n).map fun (c : Nat) => (countR rr (c : Int) : Int)
theorem many_cons (r : List Int) (rr : Rts) : many (r :: rr) = r.length + many rr := by simp [many]
theorem many_flat (rr : Rts) : many rr = rr.flatten.length := by simp [many, List.length_flatten]
theorem many_append (a b : Rts) : many (a ++ b) = many a + many b := by simp [many]
theorem countR_flat (rr : Rts) (c : Int) : countR rr c = rr.flatten.count c := by
  induction rr with
  | nil => rfl
  | cons r rr ih => simp only [countR, List.map_cons, List.sum_cons, List.flatten_cons, List.count_append] at ih ⊢; rw [ih]
theorem countR_append (a b : Rts) (c : Int) : countR (a ++ b) c = countR a c + countR b c := by simp [countR]
theorem norm_flat (rr : Rts) : (normR rr).flatten = rr.flatten := by
  induction rr with
  | nil => rfl
  | cons r rr ih =>
    unfold normR at ih ⊢
    cases r with
    | nil => simpa using ih
    | cons a l => simp [ih]
theorem norm_own (rr : Rts) : normR (normR rr) = normR rr := by unfold normR; rw [List.filter_filter]; simp
theorem norm_many (rr : Rts) : many (normR rr) = many rr := by rw [many_flat, many_flat, norm_flat]
theorem norm_count (rr : Rts) (c : Int) : countR (normR rr) c = countR rr c := by rw [countR_flat, countR_flat, norm_flat]
theorem norm_counts (rr : Rts) (n : Nat) : countL (normR rr) n = countL rr n := by
  unfold countL; congr 1; funext c; rw [norm_count]
theorem norm_none {rr : Rts} {r : List Int} (h : r ∈ normR rr) : r ≠ [] := by
  intro e
  rw [e] at h
  simp [normR] at h
theorem place_none {s : Int} : ∀ {l : List Int}, place s l = none ↔ s ∉ l
  | [] => by simp [place]
  | a :: l => by
    unfold place
    by_cases h : a = s
    · simp [h]
    · rw [if_neg h, Option.map_eq_none_iff, place_none (l := l)]
      simp only [List.mem_cons, not_or]
      exact ⟨fun h2 => ⟨fun e => h e.symm, h2⟩, fun h2 => h2.2⟩
theorem place_get {s : Int} : ∀ {l : List Int} {k : Nat}, place s l = some k → l[k]? = some s
  | [], k, h => by simp [place] at h
  | a :: l, k, h => by
    unfold place at h
    by_cases he : a = s
    · rw [if_pos he] at h
      cases h
      simp [he]
    · rw [if_neg he] at h
      obtain ⟨j, hj, rfl⟩ := Option.map_eq_some_iff.1 h
      simpa using place_get hj
theorem findR_none {s : Int} : ∀ {rr : Rts}, findR s rr = none ↔ s ∉ rr.flatten
  | [] => by simp [findR]
  | r :: rr => by
    unfold findR
    cases h : place s r with
    | none =>
      have h1 := place_none.1 h
      simp only [Option.map_eq_none_iff, findR_none (rr := rr), List.flatten_cons, List.mem_append, not_or]
      exact ⟨fun h2 => ⟨h1, h2⟩, fun h2 => h2.2⟩
    | some k =>
      have h1 := List.mem_of_getElem? (place_get h)
      simp [h1]
theorem findR_get {s : Int} : ∀ {rr : Rts} {i k : Nat}, findR s rr = some (i, k) → ∃ r, rr[i]? = some r ∧ r[k]? = some s
  | [], i, k, h => by simp [findR] at h
  | r :: rr, i, k, h => by
    unfold findR at h
    cases hp : place s r with
    | some j =>
      rw [hp] at h
      cases h
      exact ⟨r, rfl, place_get hp⟩
    | none =>
      rw [hp] at h
      obtain ⟨⟨i', k'⟩, h1, h2⟩ := Option.map_eq_some_iff.1 h
      cases h2
      obtain ⟨r', h3, h4⟩ := findR_get h1
      exact ⟨r', by simpa using h3, h4⟩
theorem findR_cons (s : Int) (r : List Int) (rr : Rts) : findR s (r :: rr) = match place s r with
    | some k => some (0, k)
    | none => (findR s rr).map fun p => (p.1 + 1, p.2) := rfl
theorem findR_append (s : Int) (q : Rts) : ∀ p : Rts, findR s (p ++ q) = match findR s p with
    | some x => some x
    | none => (findR s q).map fun x => (x.1 + p.length, x.2)
  | [] => by simp [findR]
  | r :: p => by
    rw [List.cons_append, findR_cons, findR_cons, findR_append s q p]
    cases place s r with
    | some k => rfl
    | none =>
      cases findR s p with
      | some x => rfl
      | none =>
        cases findR s q with
        | none => rfl
        | some x =>
          show some (x.1 + p.length + 1, x.2) = some (x.1 + (p.length + 1), x.2)
          rw [Nat.add_assoc]
theorem findR_norm (s : Int) : ∀ rr : Rts, (findR s (normR rr)).map (·.2) = (findR s rr).map (·.2)
  | [] => rfl
  | r :: rr => by
    have ih := findR_norm s rr
    cases r with
    | nil =>
      have e : normR ([] :: rr) = normR rr := rfl
      rw [e, ih]
      show _ = (Option.map (fun p => (p.1 + 1, p.2)) (findR s rr)).map (·.2)
      cases findR s rr <;> rfl
    | cons a l =>
      have e : normR ((a :: l) :: rr) = (a :: l) :: normR rr := rfl
      rw [e]
      unfold findR
      cases place s (a :: l) with
      | some k => rfl
      | none =>
        dsimp only
        rw [Option.map_map, Option.map_map]
        have f1 : ((fun x : Nat × Nat => x.2) ∘ fun p : Nat × Nat => (p.1 + 1, p.2)) = (fun x => x.2) := rfl
        rw [f1]
        exact ih
theorem found_iff (s : Int) (rr : Rts) : (findR s rr).isSome = decide (0 < countR rr s) := by
  rw [countR_flat]
  cases h : findR s rr with
  | none => have := findR_none.1 h; simp [List.count_eq_zero.2 this]
  | some p =>
    have : s ∈ rr.flatten := by
      apply Classical.byContradiction
      intro hn
      rw [findR_none.2 hn] at h
      cases h
    simp [List.count_pos_iff.2 this]
/-- How many of a list are 0 to n. -/
theorem counts_within : ∀ (l : List Int) (n : Nat), ((List.range n).map fun (c : Nat) => l.count (c : Int)).sum = (l.filter fun (s : Int) => decide (0 ≤ s) && decide (s < (n : Int))).length := by
  intro l n
  induction n with
  | zero =>
    have : (l.filter fun (s : Int) => decide (0 ≤ s) && decide (s < ((0 : Nat) : Int))) = [] := by
      rw [List.filter_eq_nil_iff]; intro a _; simp
    rw [this]; rfl
  | succ n ih =>
    rw [List.range_succ, List.map_append, List.sum_append, ih]
    simp only [List.map_cons, List.map_nil, List.sum_cons, List.sum_nil, Nat.add_zero]
    clear ih
    induction l with
    | nil => rfl
    | cons a l ihl =>
      rw [List.count_cons, List.filter_cons, List.filter_cons]
      by_cases h1 : a = (n : Int)
      · subst h1
        have e1 : (decide ((0 : Int) ≤ (n : Int)) && decide ((n : Int) < (n : Int))) = false := by simp
        have e2 : (decide ((0 : Int) ≤ (n : Int)) && decide ((n : Int) < ((n + 1 : Nat) : Int))) = true := by simp; omega
        rw [e1, e2]
        simp only [beq_self_eq_true, if_true, Bool.false_eq_true, if_false, List.length_cons]
        omega
      · have e3 : (a == (n : Int)) = false := by simp [h1]
        have e4 : (decide ((0 : Int) ≤ a) && decide (a < ((n + 1 : Nat) : Int))) = (decide ((0 : Int) ≤ a) && decide (a < (n : Int))) := by
          rw [Bool.eq_iff_iff]; simp; omega
        rw [e3, e4]
        split <;> simp_all <;> omega
theorem counts_sum (rr : Rts) (n : Nat) : ((List.range n).map fun (c : Nat) => countR rr (c : Int)).sum = (rr.flatten.filter fun (s : Int) => decide (0 ≤ s) && decide (s < (n : Int))).length := by
  rw [← counts_within]
  congr 1
  apply List.map_congr_left
  intro c _
  exact countR_flat rr _
theorem counts_most (rr : Rts) (n : Nat) : ((List.range n).map fun (c : Nat) => countR rr (c : Int)).sum ≤ many rr := by
  rw [counts_sum, many_flat]; exact List.length_filter_le _ _
theorem counts_all {rr : Rts} {n : Nat} (h : ∀ s ∈ rr.flatten, 0 ≤ s ∧ s < n) : ((List.range n).map fun (c : Nat) => countR rr (c : Int)).sum = many rr := by
  rw [counts_sum, many_flat, List.filter_eq_self.2]
  intro s hs
  have := h s hs
  simp; omega
#print axioms counts_all
#print axioms findR_norm
#print axioms findR_append
#print axioms found_iff
end Go.Plans
