/- Plain facts on layouts of matrices; no program. kind of 1 to 7; n rows; places are told as pairs of a row and a column. -/
namespace Go.Layout

/-- Does a layout tell the number of row i and column j? -/
def tells (k i j : Nat) : Bool :=
  if k = 2 ∨ k = 6 then decide (i < j) else if k = 3 ∨ k = 7 then decide (j < i) else if k = 4 then decide (i ≤ j) else if k = 5 then decide (j ≤ i) else true
/-- The place of step a, b of two loops: column by column in two of the layouts. -/
def cellAt (k : Nat) (p : Nat × Nat) : Nat × Nat := if k = 6 ∨ k = 7 then (p.2, p.1) else p
/-- All pairs, row by row. -/
def pairs (n : Nat) : List (Nat × Nat) := (List.range (n * n)).map fun x => (x / n, x % n)
/-- The places that a layout tells among the first s steps, in its order. -/
def toldUpto (k n s : Nat) : List (Nat × Nat) := (((pairs n).take s).map (cellAt k)).filter fun q => tells k q.1 q.2
def places (k n : Nat) : List (Nat × Nat) := ((pairs n).map (cellAt k)).filter fun q => tells k q.1 q.2

theorem pairs_length (n : Nat) : (pairs n).length = n * n := by simp [pairs]
theorem div_step {n a b : Nat} (hb : b < n) : (a * n + b) / n = a := by
  rw [Nat.mul_comm, Nat.mul_add_div (by omega), Nat.div_eq_of_lt hb]; omega
theorem mod_step {n a b : Nat} (hb : b < n) : (a * n + b) % n = b := by
  rw [Nat.mul_comm, Nat.mul_add_mod, Nat.mod_eq_of_lt hb]
theorem step_lt {n a b : Nat} (ha : a < n) (hb : b < n) : a * n + b < n * n := by
  have h1 : (a + 1) * n ≤ n * n := Nat.mul_le_mul_right n ha
  rw [Nat.add_mul] at h1
  omega
theorem pairs_get {n a b : Nat} (ha : a < n) (hb : b < n) : (pairs n)[a * n + b]? = some (a, b) := by
  have h := step_lt ha hb
  simp [pairs, List.getElem?_range h, div_step hb, mod_step hb]
theorem mem_pairs {n a b : Nat} : (a, b) ∈ pairs n ↔ a < n ∧ b < n := by
  constructor
  · intro h
    obtain ⟨x, hx, he⟩ := List.mem_map.1 h
    have hx := List.mem_range.1 hx
    have hn : 0 < n := by rcases Nat.eq_zero_or_pos n with h0 | h0; · subst h0; simp at hx
                          · exact h0
    cases he
    exact ⟨(Nat.div_lt_iff_lt_mul hn).2 hx, Nat.mod_lt _ hn⟩
  · rintro ⟨ha, hb⟩
    exact List.mem_of_getElem? (pairs_get ha hb)
theorem nodup_map {α β : Type} {f : α → β} {l : List α} (h : ∀ x ∈ l, ∀ y ∈ l, f x = f y → x = y) (hl : l.Nodup) : (l.map f).Nodup := by
  unfold List.Nodup at hl ⊢
  rw [List.pairwise_map]
  exact hl.imp_of_mem fun hx hy hne e => hne (h _ hx _ hy e)
theorem pairs_nodup (n : Nat) : (pairs n).Nodup := by
  refine nodup_map ?_ List.nodup_range
  intro x hx y hy h
  have h1 : x / n = y / n := (Prod.mk.inj h).1
  have h2 : x % n = y % n := (Prod.mk.inj h).2
  rw [← Nat.div_add_mod x n, ← Nat.div_add_mod y n, h1, h2]
theorem cellAt_cellAt (k : Nat) (p : Nat × Nat) : cellAt k (cellAt k p) = p := by unfold cellAt; split <;> rfl
theorem cellAt_inj {k : Nat} {p q : Nat × Nat} (h : cellAt k p = cellAt k q) : p = q := by rw [← cellAt_cellAt k p, h, cellAt_cellAt]
theorem cells_nodup (k n : Nat) : ((pairs n).map (cellAt k)).Nodup := nodup_map (fun _ _ _ _ h => cellAt_inj h) (pairs_nodup n)
theorem places_nodup (k n : Nat) : (places k n).Nodup := (cells_nodup k n).filter _
theorem mem_cells {k n i j : Nat} : (i, j) ∈ (pairs n).map (cellAt k) ↔ i < n ∧ j < n := by
  rw [List.mem_map]
  constructor
  · rintro ⟨⟨a, b⟩, h, he⟩
    have := mem_pairs.1 h
    unfold cellAt at he
    split at he <;> cases he <;> exact ⟨by omega, by omega⟩
  · rintro ⟨hi, hj⟩
    refine ⟨cellAt k (i, j), ?_, cellAt_cellAt k _⟩
    unfold cellAt
    split
    · exact mem_pairs.2 ⟨hj, hi⟩
    · exact mem_pairs.2 ⟨hi, hj⟩
theorem mem_places {k n i j : Nat} : (i, j) ∈ places k n ↔ (i < n ∧ j < n) ∧ tells k i j = true := by
  unfold places; rw [List.mem_filter, mem_cells]
theorem toldUpto_zero (k n : Nat) : toldUpto k n 0 = [] := by simp [toldUpto]
theorem toldUpto_all (k n : Nat) : toldUpto k n (n * n) = places k n := by
  unfold toldUpto places; rw [List.take_of_length_le (by rw [pairs_length]; exact Nat.le_refl _)]
theorem toldUpto_next {k n a b : Nat} (ha : a < n) (hb : b < n) :
    toldUpto k n (a * n + b + 1) = toldUpto k n (a * n + b) ++ if tells k (cellAt k (a, b)).1 (cellAt k (a, b)).2 = true then [cellAt k (a, b)] else [] := by
  unfold toldUpto
  rw [List.take_add_one, pairs_get ha hb]
  simp only [Option.toList_some, List.map_append, List.filter_append, List.map_cons, List.map_nil, List.filter_cons, List.filter_nil]
theorem toldUpto_row {k n a : Nat} : toldUpto k n (a * n + n) = toldUpto k n ((a + 1) * n + 0) := by rw [Nat.add_mul, Nat.one_mul, Nat.add_zero]
theorem toldUpto_pre (k n s : Nat) : toldUpto k n s <+: places k n := by
  unfold toldUpto places
  exact ((List.take_prefix s (pairs n)).map _).filter _
theorem toldUpto_le (k n s : Nat) : (toldUpto k n s).length ≤ (places k n).length := (toldUpto_pre k n s).length_le
/-- The place of a step that is told is the next one. -/
theorem places_at {k n a b : Nat} (ha : a < n) (hb : b < n) (h : tells k (cellAt k (a, b)).1 (cellAt k (a, b)).2 = true) :
    (places k n)[(toldUpto k n (a * n + b)).length]? = some (cellAt k (a, b)) := by
  have h1 := toldUpto_next (k := k) ha hb
  rw [if_pos h] at h1
  have h2 := toldUpto_pre k n (a * n + b + 1)
  rw [h1] at h2
  obtain ⟨r, hr⟩ := h2
  rw [← hr]
  simp

/-! How many are told. -/
/-- Is step a, b told? -/
def told (k a b : Nat) : Bool := tells k (cellAt k (a, b)).1 (cellAt k (a, b)).2
theorem told_one (a b : Nat) : told 1 a b = true := by simp [told, tells]
theorem told_up {k a b : Nat} (hk : k = 2 ∨ k = 7) : told k a b = decide (a < b) := by rcases hk with rfl | rfl <;> simp [told, tells, cellAt]
theorem told_low {k a b : Nat} (hk : k = 3 ∨ k = 6) : told k a b = decide (b < a) := by rcases hk with rfl | rfl <;> simp [told, tells, cellAt]
theorem told_four (a b : Nat) : told 4 a b = decide (a ≤ b) := by simp [told, tells, cellAt]
theorem told_five (a b : Nat) : told 5 a b = decide (b ≤ a) := by simp [told, tells, cellAt]
/-- How many are told of the first b steps of row a. -/
def rowUp (k a : Nat) : Nat → Nat
  | 0 => 0
  | b + 1 => rowUp k a b + if told k a b = true then 1 else 0
theorem len_next {k n a b : Nat} (ha : a < n) (hb : b < n) : (toldUpto k n (a * n + b + 1)).length = (toldUpto k n (a * n + b)).length + if told k a b = true then 1 else 0 := by
  rw [toldUpto_next ha hb]
  unfold told
  split <;> simp
theorem len_row {k n a b : Nat} (ha : a < n) (hb : b ≤ n) : (toldUpto k n (a * n + b)).length = (toldUpto k n (a * n)).length + rowUp k a b := by
  induction b with
  | zero => simp [rowUp]
  | succ b ih => rw [← Nat.add_assoc, len_next ha (by omega), ih (by omega), rowUp]; omega
/-- How many are told ahead of row a, row by row. -/
def rowsUp (k n : Nat) : Nat → Nat
  | 0 => 0
  | a + 1 => rowsUp k n a + rowUp k a n
theorem len_rows {k n a : Nat} (ha : a ≤ n) : (toldUpto k n (a * n)).length = rowsUp k n a := by
  induction a with
  | zero => simp [rowsUp, toldUpto_zero]
  | succ a ih => rw [Nat.add_mul, Nat.one_mul, len_row (by omega) (Nat.le_refl n), ih (by omega), rowsUp]
theorem len_at {k n a b : Nat} (ha : a < n) (hb : b ≤ n) : (toldUpto k n (a * n + b)).length = rowsUp k n a + rowUp k a b := by
  rw [len_row ha hb, len_rows (by omega)]
def tri : Nat → Nat
  | 0 => 0
  | a + 1 => tri a + a
theorem tri_eq (a : Nat) : 2 * tri a = a * (a - 1) := by
  induction a with
  | zero => rfl
  | succ a ih =>
    cases a with
    | zero => rfl
    | succ c =>
      simp only [tri, Nat.add_sub_cancel] at ih ⊢
      have : (c + 1 + 1) * (c + 1) = (c + 1) * c + 2 * (c + 1) := by simp only [Nat.add_mul, Nat.mul_add]; omega
      omega
theorem tri_half (n : Nat) : n * (n - 1) / 2 = tri n := by have := tri_eq n; omega
theorem tri_half' (n : Nat) : n * (n + 1) / 2 = tri (n + 1) := by have := tri_eq (n + 1); rw [Nat.add_sub_cancel, Nat.mul_comm (n + 1) n] at this; omega
/-- The number of places. -/
def count (k n : Nat) : Nat := if k = 1 then n * n else if k = 4 ∨ k = 5 then n * (n + 1) / 2 else n * (n - 1) / 2
theorem rowUp_one (a b : Nat) : rowUp 1 a b = b := by induction b with | zero => rfl | succ b ih => rw [rowUp, ih, told_one]; rfl
theorem rowUp_low {k : Nat} (hk : k = 3 ∨ k = 6) (a b : Nat) : rowUp k a b = min b a := by
  induction b with
  | zero => simp [rowUp]
  | succ b ih => rw [rowUp, ih, told_low hk]; by_cases h : b < a <;> simp [h] <;> omega
theorem rowUp_five (a b : Nat) : rowUp 5 a b = min b (a + 1) := by
  induction b with
  | zero => simp [rowUp]
  | succ b ih => rw [rowUp, ih, told_five]; by_cases h : b ≤ a <;> simp [h] <;> omega
theorem rowUp_up {k : Nat} (hk : k = 2 ∨ k = 7) (a b : Nat) : rowUp k a b = b - (a + 1) := by
  induction b with
  | zero => simp [rowUp]
  | succ b ih => rw [rowUp, ih, told_up hk]; by_cases h : a < b <;> simp [h] <;> omega
theorem rowUp_four (a b : Nat) : rowUp 4 a b = b - a := by
  induction b with
  | zero => simp [rowUp]
  | succ b ih => rw [rowUp, ih, told_four]; by_cases h : a ≤ b <;> simp [h] <;> omega
theorem rows_one (n a : Nat) : rowsUp 1 n a = a * n := by induction a with | zero => simp [rowsUp] | succ a ih => rw [rowsUp, ih, rowUp_one, Nat.add_mul, Nat.one_mul]
theorem rows_low {k : Nat} (hk : k = 3 ∨ k = 6) {n a : Nat} (ha : a ≤ n) : rowsUp k n a = tri a := by
  induction a with
  | zero => rfl
  | succ a ih => rw [rowsUp, ih (by omega), rowUp_low hk, tri]; omega
theorem rows_five {n a : Nat} (ha : a ≤ n) : rowsUp 5 n a = tri (a + 1) := by
  induction a with
  | zero => rfl
  | succ a ih => rw [rowsUp, ih (by omega), rowUp_five]; show _ = tri (a + 1) + (a + 1); omega
theorem rows_up {k : Nat} (hk : k = 2 ∨ k = 7) {n a : Nat} (ha : a ≤ n) : rowsUp k n a + tri (n - a) = tri n := by
  induction a with
  | zero => simp [rowsUp]
  | succ a ih =>
    have h1 := ih (by omega)
    rw [rowsUp, rowUp_up hk]
    rw [show n - a = (n - (a + 1)) + 1 by omega, tri] at h1
    omega
theorem rows_four {n a : Nat} (ha : a ≤ n) : rowsUp 4 n a + tri (n + 1 - a) = tri (n + 1) := by
  induction a with
  | zero => simp [rowsUp]
  | succ a ih =>
    have h1 := ih (by omega)
    rw [rowsUp, rowUp_four]
    rw [show n + 1 - a = (n + 1 - (a + 1)) + 1 by omega, tri] at h1
    omega
theorem places_length {k n : Nat} (hk : 1 ≤ k) (hk7 : k ≤ 7) : (places k n).length = count k n := by
  rw [← toldUpto_all, len_rows (Nat.le_refl n)]
  unfold count
  rcases (show k = 1 ∨ (k = 2 ∨ k = 7) ∨ (k = 3 ∨ k = 6) ∨ k = 4 ∨ k = 5 by omega) with rfl | hk | hk | rfl | rfl
  · rw [if_pos rfl, rows_one]
  · rw [if_neg (by omega), if_neg (by omega), tri_half]
    have := rows_up hk (Nat.le_refl n)
    rw [Nat.sub_self] at this
    simp only [tri] at this
    omega
  · rw [if_neg (by omega), if_neg (by omega), tri_half, rows_low hk (Nat.le_refl n)]
  · rw [if_neg (by omega), if_pos (by omega), tri_half']
    have := rows_four (Nat.le_refl n)
    rw [show n + 1 - n = 1 by omega] at this
    simp only [tri] at this ⊢
    omega
  · rw [if_neg (by omega), if_pos (by omega), tri_half', rows_five (Nat.le_refl n)]

/-! Where a place stands. -/
/-- At which place stands what is told of row i and column j. -/
def rank (k n i j : Nat) : Nat := (toldUpto k n ((cellAt k (i, j)).1 * n + (cellAt k (i, j)).2)).length
theorem cellAt_lt {k n i j : Nat} (hi : i < n) (hj : j < n) : (cellAt k (i, j)).1 < n ∧ (cellAt k (i, j)).2 < n := by unfold cellAt; split <;> exact ⟨by assumption, by assumption⟩
theorem rank_at {k n i j : Nat} (hi : i < n) (hj : j < n) (h : tells k i j = true) : (places k n)[rank k n i j]? = some (i, j) := by
  obtain ⟨h1, h2⟩ := cellAt_lt (k := k) hi hj
  have h3 : cellAt k ((cellAt k (i, j)).1, (cellAt k (i, j)).2) = (i, j) := cellAt_cellAt k (i, j)
  have := places_at (k := k) h1 h2 (by rw [h3]; exact h)
  rw [h3] at this
  exact this
theorem rank_lt {k n i j : Nat} (hi : i < n) (hj : j < n) (h : tells k i j = true) : rank k n i j < (places k n).length := by
  obtain ⟨h1, _⟩ := List.getElem?_eq_some_iff.1 (rank_at hi hj h); exact h1
theorem rank_inj {k n i j p q : Nat} (hi : i < n) (hj : j < n) (hp : p < n) (hq : q < n) (h : tells k i j = true) (g : tells k p q = true) (e : rank k n i j = rank k n p q) : i = p ∧ j = q := by
  have h1 := rank_at hi hj h
  have h2 := rank_at hp hq g
  rw [e, h2] at h1
  have := Option.some.inj h1
  cases this
  exact ⟨rfl, rfl⟩
theorem rank_all {k n c : Nat} (hc : c < (places k n).length) : ∃ i j, i < n ∧ j < n ∧ tells k i j = true ∧ rank k n i j = c := by
  obtain ⟨⟨i, j⟩, h⟩ : ∃ q, (places k n)[c]? = some q := ⟨_, List.getElem?_eq_getElem hc⟩
  have hm := mem_places.1 (List.mem_of_getElem? h)
  refine ⟨i, j, hm.1.1, hm.1.2, hm.2, ?_⟩
  have h2 := rank_at hm.1.1 hm.1.2 hm.2
  exact ((List.getElem?_inj hc (places_nodup k n)).1 (by rw [h, h2])).symm
/-- The index of row i and column j, either way round. -/
def index (k n i j : Nat) : Int := if tells k i j = true then (rank k n i j : Int) else if tells k j i = true then (rank k n j i : Int) else -1
theorem index_swap {k n i j : Nat} (hk : k ≠ 1) (hk1 : 1 ≤ k) (hk7 : k ≤ 7) : index k n j i = index k n i j := by
  unfold index
  by_cases h : i = j
  · subst h; rfl
  · by_cases h1 : tells k i j = true
    · have h2 : ¬ tells k j i = true := by
        unfold tells at h1 ⊢
        rcases (show k = 2 ∨ k = 3 ∨ k = 4 ∨ k = 5 ∨ k = 6 ∨ k = 7 by omega) with rfl | rfl | rfl | rfl | rfl | rfl <;> simp at h1 ⊢ <;> omega
      simp [h1, h2]
    · by_cases h2 : tells k j i = true
      · simp [h1, h2]
      · simp [h1, h2]
/-! Matrices, and what is told of them. -/
def cell (m : List Int) (n i j : Nat) : Int := m.getD (i * n + j) 0
/-- The number of row i and column j of the matrix that l tells. -/
def val (l : List Int) (k n i j : Nat) : Int := if tells k i j = true then l.getD (rank k n i j) 0 else if tells k j i = true then l.getD (rank k n j i) 0 else 0
def grid (n : Nat) (f : Nat → Nat → Int) : List Int := (pairs n).map fun p => f p.1 p.2
def unpack (k n : Nat) (l : List Int) : List Int := grid n (val l k n)
def pack (k n : Nat) (m : List Int) : List Int := (places k n).map fun q => cell m n q.1 q.2
/-- Is the number of row i and column j one that a layout can't tell? -/
def bad (k n : Nat) (m : List Int) (i j : Nat) : Bool := (decide (k ≠ 1) && decide (cell m n i j ≠ cell m n j i)) || (decide (i = j) && (!tells k i i && decide (cell m n i i ≠ 0)))

theorem grid_length (n : Nat) (f : Nat → Nat → Int) : (grid n f).length = n * n := by simp [grid, pairs]
theorem grid_get {n i j : Nat} (f : Nat → Nat → Int) (hi : i < n) (hj : j < n) : (grid n f)[i * n + j]? = some (f i j) := by
  simp [grid, pairs_get hi hj]
theorem cell_grid {n i j : Nat} (f : Nat → Nat → Int) (hi : i < n) (hj : j < n) : cell (grid n f) n i j = f i j := by
  simp [cell, List.getD, grid_get f hi hj]
theorem step_of {n x : Nat} (hx : x < n * n) : x / n < n ∧ x % n < n ∧ x / n * n + x % n = x := by
  have hn : 0 < n := by rcases Nat.eq_zero_or_pos n with h0 | h0; · subst h0; simp at hx
                        · exact h0
  exact ⟨(Nat.div_lt_iff_lt_mul hn).2 hx, Nat.mod_lt _ hn, by rw [Nat.mul_comm]; exact Nat.div_add_mod x n⟩
/-- Lists of n times n numbers are the same if their cells are. -/
theorem ext_cells {n : Nat} {l r : List Int} (hl : l.length = n * n) (hr : r.length = n * n) (h : ∀ i j, i < n → j < n → l[i * n + j]? = r[i * n + j]?) : l = r := by
  apply List.ext_getElem?
  intro x
  by_cases hx : x < n * n
  · obtain ⟨h1, h2, h3⟩ := step_of hx
    have := h _ _ h1 h2
    rwa [h3] at this
  · rw [List.getElem?_eq_none (by omega), List.getElem?_eq_none (by omega)]
theorem grid_ext {n : Nat} {f g : Nat → Nat → Int} (h : ∀ i j, i < n → j < n → f i j = g i j) : grid n f = grid n g :=
  ext_cells (grid_length n f) (grid_length n g) fun i j hi hj => by rw [grid_get f hi hj, grid_get g hi hj, h i j hi hj]
theorem step_inj {n i j p q : Nat} (hj : j < n) (hq : q < n) (h : i * n + j = p * n + q) : i = p ∧ j = q := by
  have h1 : (i * n + j) / n = (p * n + q) / n := by rw [h]
  have h2 : (i * n + j) % n = (p * n + q) % n := by rw [h]
  rw [div_step hj, div_step hq] at h1
  rw [mod_step hj, mod_step hq] at h2
  exact ⟨h1, h2⟩
theorem grid_set {n p q : Nat} (f : Nat → Nat → Int) (v : Int) (hp : p < n) (hq : q < n) : (grid n f).set (p * n + q) v = grid n fun i j => if i = p ∧ j = q then v else f i j := by
  refine ext_cells (by simp [grid_length]) (grid_length _ _) fun i j hi hj => ?_
  rw [grid_get _ hi hj, List.getElem?_set]
  by_cases h : i = p ∧ j = q
  · obtain ⟨rfl, rfl⟩ := h
    rw [if_pos rfl, if_pos (by rw [grid_length]; exact step_lt hi hj), if_pos ⟨rfl, rfl⟩]
  · rw [if_neg (fun e => h (by have := step_inj hq hj e; exact ⟨this.1.symm, this.2.symm⟩)), if_neg h, grid_get f hi hj]
theorem grid_zero (n : Nat) : grid n (fun _ _ => 0) = List.replicate (n * n) 0 := by
  refine ext_cells (grid_length _ _) (by simp) fun i j hi hj => ?_
  rw [grid_get _ hi hj, List.getElem?_replicate, if_pos (step_lt hi hj)]

theorem tells_none {k i j : Nat} (hk : 1 ≤ k) (hk7 : k ≤ 7) (h : ¬ tells k i j = true) (h2 : ¬ tells k j i = true) : i = j := by
  unfold tells at h h2
  rcases (show k = 1 ∨ k = 2 ∨ k = 3 ∨ k = 4 ∨ k = 5 ∨ k = 6 ∨ k = 7 by omega) with rfl | rfl | rfl | rfl | rfl | rfl | rfl <;> simp at h h2 <;> omega
theorem tells_both {k i j : Nat} (hk : k ≠ 1) (hk1 : 1 ≤ k) (hk7 : k ≤ 7) (h : tells k i j = true) (h2 : tells k j i = true) : i = j := by
  unfold tells at h h2
  rcases (show k = 2 ∨ k = 3 ∨ k = 4 ∨ k = 5 ∨ k = 6 ∨ k = 7 by omega) with rfl | rfl | rfl | rfl | rfl | rfl <;> simp at h h2 <;> omega
theorem tells_full (i j : Nat) : tells 1 i j = true := by simp [tells]
theorem val_swap {l : List Int} {k n i j : Nat} (hk : k ≠ 1) (hk1 : 1 ≤ k) (hk7 : k ≤ 7) : val l k n i j = val l k n j i := by
  by_cases h : i = j
  · subst h; rfl
  · unfold val
    by_cases h1 : tells k i j = true
    · have h2 : ¬ tells k j i = true := fun h2 => h (tells_both hk hk1 hk7 h1 h2)
      simp [h1, h2]
    · by_cases h2 : tells k j i = true
      · simp [h1, h2]
      · simp [h1, h2]

theorem unpack_fits {k n : Nat} (hk1 : 1 ≤ k) (hk7 : k ≤ 7) (l : List Int) {i j : Nat} (hi : i < n) (hj : j < n) : bad k n (unpack k n l) i j = false := by
  unfold bad unpack
  rw [cell_grid _ hi hj, cell_grid _ hj hi, cell_grid _ hi hi]
  have h1 : (decide (k ≠ 1) && decide (val l k n i j ≠ val l k n j i)) = false := by
    by_cases hk : k = 1
    · simp [hk]
    · simp [val_swap (l := l) (n := n) (i := i) (j := j) hk hk1 hk7]
  have h2 : (!tells k i i && decide (val l k n i i ≠ 0)) = false := by
    by_cases h : tells k i i = true
    · simp [h]
    · simp [val, h]
  rw [h1, h2]; simp
theorem pack_length (k n : Nat) (m : List Int) : (pack k n m).length = (places k n).length := by simp [pack]
theorem pack_rank {k n i j : Nat} (m : List Int) (hi : i < n) (hj : j < n) (h : tells k i j = true) : (pack k n m).getD (rank k n i j) 0 = cell m n i j := by
  simp [pack, List.getD, rank_at hi hj h]
theorem pack_unpack {k n : Nat} {l : List Int} (hl : l.length = (places k n).length) : pack k n (unpack k n l) = l := by
  apply List.ext_getElem?
  intro c
  by_cases hc : c < (places k n).length
  · obtain ⟨i, j, hi, hj, ht, hr⟩ := rank_all hc
    have h1 := rank_at hi hj ht
    rw [hr] at h1
    simp only [pack, List.getElem?_map, h1, Option.map_some]
    rw [unpack, cell_grid _ hi hj, val, if_pos ht, hr]
    simp [List.getD, List.getElem?_eq_getElem (show c < l.length by omega)]
  · rw [List.getElem?_eq_none (by rw [pack_length]; omega), List.getElem?_eq_none (by omega)]
theorem unpack_pack {k n : Nat} {m : List Int} (hk1 : 1 ≤ k) (hk7 : k ≤ 7) (hm : m.length = n * n) (hf : ∀ i j, i < n → j < n → bad k n m i j = false) : unpack k n (pack k n m) = m := by
  refine ext_cells (grid_length _ _) hm fun i j hi hj => ?_
  rw [unpack, grid_get _ hi hj]
  have hc : m[i * n + j]? = some (cell m n i j) := by
    have := step_lt hi hj
    simp [cell, List.getD, List.getElem?_eq_getElem (show i * n + j < m.length by omega)]
  rw [hc]
  congr 1
  unfold val
  by_cases h1 : tells k i j = true
  · rw [if_pos h1, pack_rank m hi hj h1]
  · rw [if_neg h1]
    have hb := hf i j hi hj
    by_cases h2 : tells k j i = true
    · rw [if_pos h2, pack_rank m hj hi h2]
      have hk : k ≠ 1 := fun e => h1 (by rw [e]; exact tells_full i j)
      simp only [bad, Bool.or_eq_false_iff, Bool.and_eq_false_iff] at hb
      rcases hb.1 with h | h
      · exact absurd hk (by simpa using h)
      · have : cell m n i j = cell m n j i := by simpa using h
        exact this.symm
    · rw [if_neg h2]
      have e := tells_none hk1 hk7 h1 h2
      subst e
      simp only [bad, Bool.or_eq_false_iff] at hb
      have h3 : tells k i i = false := by simpa using h1
      have := hb.2
      rw [h3] at this
      have h4 : cell m n i i = 0 := by simpa using this
      exact h4.symm

/-! The loops of the document's own answer: step by step. -/
/-- Which step tells row i and column j. -/
def stepOf (k n i j : Nat) : Nat := (cellAt k (i, j)).1 * n + (cellAt k (i, j)).2
def valUpto (l : List Int) (k n s i j : Nat) : Int :=
  if tells k i j = true ∧ stepOf k n i j < s then l.getD (rank k n i j) 0
  else if k ≠ 1 ∧ tells k j i = true ∧ stepOf k n j i < s then l.getD (rank k n j i) 0 else 0
def matUpto (l : List Int) (k n s : Nat) : List Int := grid n (valUpto l k n s)
theorem matUpto_zero (l : List Int) (k n : Nat) : matUpto l k n 0 = List.replicate (n * n) 0 := by
  rw [← grid_zero]
  exact grid_ext fun i j _ _ => by simp [valUpto]
theorem stepOf_lt {k n i j : Nat} (hi : i < n) (hj : j < n) : stepOf k n i j < n * n := by
  obtain ⟨h1, h2⟩ := cellAt_lt (k := k) hi hj
  exact step_lt h1 h2
theorem matUpto_all (l : List Int) {k n : Nat} : matUpto l k n (n * n) = unpack k n l :=
  grid_ext fun i j hi hj => by
    have h1 := stepOf_lt (k := k) hi hj
    have h2 := stepOf_lt (k := k) hj hi
    unfold valUpto val
    by_cases h : tells k i j = true
    · simp [h, h1]
    · by_cases hk : k = 1
      · subst hk; exact absurd (tells_full i j) h
      · simp [h, hk, h2]
theorem stepOf_eq {k n i j a b : Nat} (hi : i < n) (hj : j < n) (hb : b < n) : stepOf k n i j = a * n + b ↔ (i, j) = cellAt k (a, b) := by
  obtain ⟨_, h2⟩ := cellAt_lt (k := k) hi hj
  constructor
  · intro h
    have h3 := step_inj h2 hb h
    have h4 : cellAt k (i, j) = (a, b) := Prod.ext h3.1 h3.2
    rw [← h4, cellAt_cellAt]
  · intro h
    unfold stepOf
    rw [h, cellAt_cellAt]
theorem matUpto_none {l : List Int} {k n a b : Nat} (hb : b < n) (h : told k a b = false) : matUpto l k n (a * n + b + 1) = matUpto l k n (a * n + b) :=
  grid_ext fun i j hi hj => by
    have key : ∀ p q, p < n → q < n → tells k p q = true → (stepOf k n p q < a * n + b + 1 ↔ stepOf k n p q < a * n + b) := by
      intro p q hp hq ht
      have : stepOf k n p q ≠ a * n + b := fun e => by
        have e2 := (stepOf_eq hp hq hb).1 e
        unfold told at h
        rw [← e2] at h
        rw [ht] at h
        cases h
      omega
    unfold valUpto
    have e1 : (tells k i j = true ∧ stepOf k n i j < a * n + b + 1) ↔ (tells k i j = true ∧ stepOf k n i j < a * n + b) := by
      constructor
      · exact fun h => ⟨h.1, (key i j hi hj h.1).1 h.2⟩
      · exact fun h => ⟨h.1, (key i j hi hj h.1).2 h.2⟩
    have e2 : (k ≠ 1 ∧ tells k j i = true ∧ stepOf k n j i < a * n + b + 1) ↔ (k ≠ 1 ∧ tells k j i = true ∧ stepOf k n j i < a * n + b) := by
      constructor
      · exact fun h => ⟨h.1, h.2.1, (key j i hj hi h.2.1).1 h.2.2⟩
      · exact fun h => ⟨h.1, h.2.1, (key j i hj hi h.2.1).2 h.2.2⟩
    simp only [e1, e2]
theorem rank_step {k n i j : Nat} : rank k n i j = (toldUpto k n (stepOf k n i j)).length := rfl
theorem matUpto_told {l : List Int} {k n a b i j : Nat} (hk1 : 1 ≤ k) (hk7 : k ≤ 7) (ha : a < n) (hb : b < n) (hc : cellAt k (a, b) = (i, j)) (h : told k a b = true) :
    matUpto l k n (a * n + b + 1) = if k = 1 then (matUpto l k n (a * n + b)).set (i * n + j) (l.getD (toldUpto k n (a * n + b)).length 0)
      else ((matUpto l k n (a * n + b)).set (i * n + j) (l.getD (toldUpto k n (a * n + b)).length 0)).set (j * n + i) (l.getD (toldUpto k n (a * n + b)).length 0) := by
  have hij : i < n ∧ j < n := by have := cellAt_lt (k := k) ha hb; rw [hc] at this; exact this
  have ht : tells k i j = true := by unfold told at h; rw [hc] at h; exact h
  have hs : stepOf k n i j = a * n + b := (stepOf_eq hij.1 hij.2 hb).2 hc.symm
  have hr : rank k n i j = (toldUpto k n (a * n + b)).length := by rw [rank_step, hs]
  have step : ∀ p q, p < n → q < n → (stepOf k n p q < a * n + b + 1 ↔ stepOf k n p q < a * n + b ∨ (p = i ∧ q = j)) := by
    intro p q hp hq
    have := stepOf_eq (k := k) (a := a) hp hq hb
    rw [hc, Prod.mk.injEq] at this
    omega
  rw [← hr]
  unfold matUpto
  by_cases hk : k = 1
  · rw [if_pos hk, grid_set _ _ hij.1 hij.2]
    refine grid_ext fun p q hp hq => ?_
    subst hk
    unfold valUpto
    simp only [tells_full, true_and, step p q hp hq, ne_eq, not_true_eq_false, false_and, if_false]
    by_cases e : p = i ∧ q = j
    · simp [e]
    · simp [e]
  · rw [if_neg hk, grid_set _ _ hij.1 hij.2, grid_set _ _ hij.2 hij.1]
    refine grid_ext fun p q hp hq => ?_
    unfold valUpto
    simp only [step p q hp hq, step q p hq hp]
    by_cases e1 : p = i ∧ q = j
    · obtain ⟨rfl, rfl⟩ := e1
      by_cases e2 : p = q
      · subst e2; simp [ht]
      · have : ¬ (p = q ∧ q = p) := fun e => e2 e.1
        simp [ht, this]
    · by_cases e2 : p = j ∧ q = i
      · obtain ⟨rfl, rfl⟩ := e2
        have hn : ¬ tells k p q = true := fun h3 => e1 (by have := tells_both hk hk1 hk7 h3 ht; exact ⟨this, this.symm⟩)
        simp [hn, hk, ht]
      · have e3 : ¬ (q = i ∧ p = j) := fun e => e2 ⟨e.2, e.1⟩
        simp only [e1, e2, e3, or_false, if_false, hk, ne_eq, not_false_eq_true, true_and]
/-- What is packed behind the first s steps. -/
def packUpto (m : List Int) (k n s : Nat) : List Int := (toldUpto k n s).map fun q => cell m n q.1 q.2
theorem packUpto_zero (m : List Int) (k n : Nat) : packUpto m k n 0 = [] := by simp [packUpto, toldUpto_zero]
theorem packUpto_all (m : List Int) (k n : Nat) : packUpto m k n (n * n) = pack k n m := by simp [packUpto, pack, toldUpto_all]
theorem packUpto_next {m : List Int} {k n a b i j : Nat} (ha : a < n) (hb : b < n) (hc : cellAt k (a, b) = (i, j)) :
    packUpto m k n (a * n + b + 1) = packUpto m k n (a * n + b) ++ if told k a b = true then [cell m n i j] else [] := by
  unfold packUpto told
  rw [toldUpto_next ha hb, hc]
  by_cases h : tells k i j = true <;> simp [h]
/-- May a matrix be told in a layout? -/
def fits (k n : Nat) (m : List Int) : Prop := ∀ i j, i < n → j < n → bad k n m i j = false
def fitsUpto (k n : Nat) (m : List Int) (s : Nat) : Prop := ∀ i j, i < n → j < n → stepOf k n i j < s → bad k n m i j = false
theorem fitsUpto_zero (k n : Nat) (m : List Int) : fitsUpto k n m 0 := fun _ _ _ _ h => absurd h (by omega)
theorem fitsUpto_all {k n : Nat} {m : List Int} : fitsUpto k n m (n * n) ↔ fits k n m := ⟨fun h i j hi hj => h i j hi hj (stepOf_lt hi hj), fun h i j hi hj _ => h i j hi hj⟩
theorem fitsUpto_next {k n a b i j : Nat} {m : List Int} (hb : b < n) (hc : cellAt k (a, b) = (i, j)) (h : fitsUpto k n m (a * n + b)) (hg : bad k n m i j = false) : fitsUpto k n m (a * n + b + 1) := by
  intro p q hp hq hs
  by_cases e : stepOf k n p q = a * n + b
  · have := (stepOf_eq hp hq hb).1 e
    rw [hc] at this
    cases this
    exact hg
  · exact h p q hp hq (by omega)
theorem not_fits {k n a b i j : Nat} {m : List Int} (ha : a < n) (hb : b < n) (hc : cellAt k (a, b) = (i, j)) (hg : bad k n m i j = true) : ¬ fits k n m := fun h => by
  have hij : i < n ∧ j < n := by have := cellAt_lt (k := k) ha hb; rw [hc] at this; exact this
  rw [h i j hij.1 hij.2] at hg
  cases hg

/-! Upper rows are lower columns. -/
theorem rowUp_told {k k' : Nat} (h : ∀ a b, told k a b = told k' a b) (a b : Nat) : rowUp k a b = rowUp k' a b := by
  induction b with
  | zero => rfl
  | succ b ih => rw [rowUp, rowUp, ih, h]
theorem rowsUp_told {k k' : Nat} (h : ∀ a b, told k a b = told k' a b) (n a : Nat) : rowsUp k n a = rowsUp k' n a := by
  induction a with
  | zero => rfl
  | succ a ih => rw [rowsUp, rowsUp, ih, rowUp_told h]
theorem rank_turn {k k' n i j : Nat} (h : ∀ a b, told k a b = told k' a b) (hc : cellAt k (i, j) = cellAt k' (j, i)) (hi : i < n) (hj : j < n) : rank k n i j = rank k' n j i := by
  unfold rank
  obtain ⟨h1, h2⟩ := cellAt_lt (k := k) hi hj
  rw [← hc, len_at h1 (by omega), len_at h1 (by omega), rowsUp_told h, rowUp_told h]
theorem unpack_turn {k k' n : Nat} (l : List Int) (hk : k' ≠ 1) (hk1 : 1 ≤ k') (hk7 : k' ≤ 7) (h : ∀ a b, told k a b = told k' a b) (hc : ∀ i j, cellAt k (i, j) = cellAt k' (j, i)) (ht : ∀ i j, tells k i j = tells k' j i) : unpack k n l = unpack k' n l :=
  grid_ext fun i j hi hj => by
    rw [val_swap (k := k') hk hk1 hk7]
    unfold val
    rw [ht i j, ht j i, rank_turn h (hc i j) hi hj, rank_turn h (hc j i) hj hi]
theorem unpack_seven (n : Nat) (l : List Int) : unpack 7 n l = unpack 2 n l :=
  unpack_turn l (by omega) (by omega) (by omega) (fun a b => by rw [told_up (.inr rfl), told_up (.inl rfl)]) (fun i j => by simp [cellAt]) (fun i j => by simp [tells])
theorem unpack_six (n : Nat) (l : List Int) : unpack 6 n l = unpack 3 n l :=
  unpack_turn l (by omega) (by omega) (by omega) (fun a b => by rw [told_low (.inr rfl), told_low (.inl rfl)]) (fun i j => by simp [cellAt]) (fun i j => by simp [tells])
/-- A matrix of upper rows may be told in every layout but the one of all. -/
theorem upper_fits {k n : Nat} (l : List Int) : fits k n (unpack 2 n l) := by
  intro i j hi hj
  have h := unpack_fits (k := 2) (by omega) (by omega) l hi hj
  have h0 := unpack_fits (k := 2) (by omega) (by omega) l hi hi
  simp only [bad, Bool.or_eq_false_iff] at h h0
  have e1 : cell (unpack 2 n l) n i j = cell (unpack 2 n l) n j i := by simpa using h.1
  have e2 : cell (unpack 2 n l) n i i = 0 := by have := h0.2; simp [tells] at this; exact this
  simp [bad, e1, e2]
theorem count_up (n : Nat) : count 4 n = count 2 n + n := by
  have h1 := tri_half n
  have h2 := tri_half' n
  simp only [count] at *
  simp
  rw [h1, h2, tri]

/-! Each place once. -/
/-- How many of the first s steps stand at place x, mirrored ones once. -/
def hits (k n s x : Nat) : Nat := ((pairs n).take s).countP fun p => (decide (p.1 ≤ p.2) || decide (k = 1)) && decide (index k n p.1 p.2 = (x : Int))
theorem hits_zero (k n x : Nat) : hits k n 0 x = 0 := by simp [hits]
theorem hits_next {k n a b x : Nat} (ha : a < n) (hb : b < n) :
    hits k n (a * n + b + 1) x = hits k n (a * n + b) x + if ((decide (a ≤ b) || decide (k = 1)) && decide (index k n a b = (x : Int))) = true then 1 else 0 := by
  unfold hits
  rw [List.take_add_one, pairs_get ha hb, Option.toList_some, List.countP_append, List.countP_singleton]
theorem countP_one {α : Type} {l : List α} {P : α → Bool} {x : α} (hl : l.Nodup) (hx : x ∈ l) (hP : P x = true) (hu : ∀ y ∈ l, P y = true → y = x) : l.countP P = 1 := by
  induction l with
  | nil => cases hx
  | cons y r ih =>
    rw [List.nodup_cons] at hl
    rcases List.mem_cons.1 hx with rfl | hx'
    · rw [List.countP_cons_of_pos hP]
      have : r.countP P = 0 := by
        rw [List.countP_eq_zero]
        intro z hz hPz
        exact hl.1 (hu z (List.mem_cons_of_mem _ hz) hPz ▸ hz)
      omega
    · have hy : ¬ P y = true := fun h => hl.1 (hu y (List.mem_cons_self ..) h ▸ hx')
      rw [List.countP_cons_of_neg hy]
      exact ih hl.2 hx' fun z hz h => hu z (List.mem_cons_of_mem _ hz) h
theorem index_told {k n i j : Nat} (h : tells k i j = true) : index k n i j = (rank k n i j : Int) := by unfold index; rw [if_pos h]
theorem hits_all {k n x : Nat} (hk1 : 1 ≤ k) (hk7 : k ≤ 7) (hx : x < (places k n).length) : hits k n (n * n) x = 1 := by
  obtain ⟨p, q, hp, hq, ht, hr⟩ := rank_all hx
  have hI : index k n p q = (x : Int) := by rw [index_told ht, hr]
  unfold hits
  rw [List.take_of_length_le (by rw [pairs_length]; exact Nat.le_refl _)]
  have uniq : ∀ a b, a < n → b < n → index k n a b = (x : Int) → (a = p ∧ b = q) ∨ (k ≠ 1 ∧ a = q ∧ b = p) := by
    intro a b ha hb h
    unfold index at h
    by_cases h1 : tells k a b = true
    · rw [if_pos h1] at h
      exact .inl (rank_inj ha hb hp hq h1 ht (by omega))
    · rw [if_neg h1] at h
      have hk : k ≠ 1 := fun e => h1 (by rw [e]; exact tells_full a b)
      by_cases h2 : tells k b a = true
      · rw [if_pos h2] at h
        have := rank_inj hb ha hp hq h2 ht (by omega)
        exact .inr ⟨hk, this.2, this.1⟩
      · rw [if_neg h2] at h; omega
  by_cases hk : k = 1
  · refine countP_one (x := (p, q)) (pairs_nodup n) (mem_pairs.2 ⟨hp, hq⟩) (by simp [hk]; rw [← hk]; exact hI) ?_
    rintro ⟨a, b⟩ hm h
    have hab := mem_pairs.1 hm
    simp only [Bool.and_eq_true, decide_eq_true_eq] at h
    rcases uniq a b hab.1 hab.2 h.2 with ⟨rfl, rfl⟩ | ⟨h3, _⟩
    · rfl
    · exact absurd hk h3
  · by_cases hpq : p ≤ q
    · refine countP_one (x := (p, q)) (pairs_nodup n) (mem_pairs.2 ⟨hp, hq⟩) (by simp [hpq, hI]) ?_
      rintro ⟨a, b⟩ hm h
      have hab := mem_pairs.1 hm
      simp only [Bool.and_eq_true, Bool.or_eq_true, decide_eq_true_eq] at h
      rcases uniq a b hab.1 hab.2 h.2 with ⟨rfl, rfl⟩ | ⟨_, rfl, rfl⟩
      · rfl
      · have : a = b := by omega
        subst this; rfl
    · refine countP_one (x := (q, p)) (pairs_nodup n) (mem_pairs.2 ⟨hq, hp⟩) (by simp [index_swap hk hk1 hk7, hI]; exact .inl (by omega)) ?_
      rintro ⟨a, b⟩ hm h
      have hab := mem_pairs.1 hm
      simp only [Bool.and_eq_true, Bool.or_eq_true, decide_eq_true_eq] at h
      rcases uniq a b hab.1 hab.2 h.2 with ⟨rfl, rfl⟩ | ⟨_, rfl, rfl⟩
      · omega
      · rfl
#print axioms pack_unpack
#print axioms unpack_pack
#print axioms matUpto_told
#print axioms upper_fits
#print axioms hits_all
end Go.Layout
