/- Plain facts on layouts of matrices; no program. kind of 1 to 7; n rows; places are told as pairs of a row and a column. -/
import Derived.Shelf.Abstract
import Derived.Shelf.RegionOpen
import Derived.WalkKit
import Derived.LoopNIn
import Derived.LoopIn
import Derived.Lib.OthersKept
import Derived.Lib.Hide
import Derived.Test.YtmmmgljekoebpaaGreatDoorProg
import Derived.Lib.Strings
import Derived.RangeFuncNested
import Derived.RangeFuncBound
import Derived.RangeFuncCalls
import Derived.RangeFuncLeaves
import Derived.OwnWalkIn
import Derived.TacticsInMore
import Derived.Test.YtmmmgljekoebpaaGreatDoorG01
import Derived.Laws.RangeAny
import Derived.RowKit
import Derived.Test.YtmmmgljekoebpaaGreatDoorShelf
import Derived.Laws.Runes
import Derived.Lib.Bytealg
import Derived.Deep.QuietTactic
import Derived.BigQuiet
import Derived.Deep.LoopGhost
import Derived.WalkMore
import Derived.IntWalk
import Derived.OneCell
import Derived.Lib.TrimU
namespace Go.Layout

/-- Does a layout tell the number of row i and column j? -/
def tells (k i j : Nat) : Bool :=
  if k = 2 ∨ k = 6 then decide (i < j) else if k = 3 ∨ k = 7 then decide (j < i) else if k = 4 then decide (i ≤ j) else if k = 5 then decide (j ≤ i) else true
/-- The place of step a, b of two loops: column by column in two of the layouts. -/
def cellAt (k : Nat) (p : Nat × Nat) : Nat × Nat := if k = 6 ∨ k = 7 then (p.2, p.1) else p
/-- All pairs, row by row. -/
def pairs (n : Nat) : List (Nat × Nat) := (List.range (n * n)).map fun x => (x / n, x % n)
/-- The places that a layout tells among the first s steps, in its order. -/
def toldUpto (k n s : Nat) : List (Nat × Nat) := (((pairs n).take s).map (cellAt k)).filter fun q => tells k q.1 q.2
def places (k n : Nat) : List (Nat × Nat) := ((pairs n).map (cellAt k)).filter fun q => tells k q.1 q.2

theorem pairs_length (n : Nat) : (pairs n).length = n * n := by simp [pairs]
theorem div_step {n a b : Nat} (hb : b < n) : (a * n + b) / n = a := by
  rw [Nat.mul_comm, Nat.mul_add_div (by omega), Nat.div_eq_of_lt hb]; omega
theorem mod_step {n a b : Nat} (hb : b < n) : (a * n + b) % n = b := by
  rw [Nat.mul_comm, Nat.mul_add_mod, Nat.mod_eq_of_lt hb]
theorem step_lt {n a b : Nat} (ha : a < n) (hb : b < n) : a * n + b < n * n := by
  have h1 : (a + 1) * n ≤ n * n := Nat.mul_le_mul_right n ha
  rw [Nat.add_mul] at h1
  omega
theorem pairs_get {n a b : Nat} (ha : a < n) (hb : b < n) : (pairs n)[a * n + b]? = some (a, b) := by
  have h := step_lt ha hb
  simp [pairs, List.getElem?_range h, div_step hb, mod_step hb]
theorem mem_pairs {n a b : Nat} : (a, b) ∈ pairs n ↔ a < n ∧ b < n := by
  constructor
  · intro h
    obtain ⟨x, hx, he⟩ := List.mem_map.1 h
    have hx := List.mem_range.1 hx
    have hn : 0 < n := by rcases Nat.eq_zero_or_pos n with h0 | h0; · subst h0; simp at hx
                          · exact h0
    cases he
    exact ⟨(Nat.div_lt_iff_lt_mul hn).2 hx, Nat.mod_lt _ hn⟩
  · rintro ⟨ha, hb⟩
    exact List.mem_of_getElem? (pairs_get ha hb)
theorem nodup_map {α β : Type} {f : α → β} {l : List α} (h : ∀ x ∈ l, ∀ y ∈ l, f x = f y → x = y) (hl : l.Nodup) : (l.map f).Nodup := by
  unfold List.Nodup at hl ⊢
  rw [List.pairwise_map]
  exact hl.imp_of_mem fun hx hy hne e => hne (h _ hx _ hy e)
theorem pairs_nodup (n : Nat) : (pairs n).Nodup := by
  refine nodup_map ?_ List.nodup_range
  intro x hx y hy h
  have h1 : x / n = y / n := (Prod.mk.inj h).1
  have h2 : x % n = y % n := (Prod.mk.inj h).2
  rw [← Nat.div_add_mod x n, ← Nat.div_add_mod y n, h1, h2]
theorem cellAt_cellAt (k : Nat) (p : Nat × Nat) : cellAt k (cellAt k p) = p := by unfold cellAt; split <;> rfl
theorem cellAt_inj {k : Nat} {p q : Nat × Nat} (h : cellAt k p = cellAt k q) : p = q := by rw [← cellAt_cellAt k p, h, cellAt_cellAt]
theorem cells_nodup (k n : Nat) : ((pairs n).map (cellAt k)).Nodup := nodup_map (fun _ _ _ _ h => cellAt_inj h) (pairs_nodup n)
theorem places_nodup (k n : Nat) : (places k n).Nodup := (cells_nodup k n).filter _
theorem mem_cells {k n i j : Nat} : (i, j) ∈ (pairs n).map (cellAt k) ↔ i < n ∧ j < n := by
  rw [List.mem_map]
  constructor
  · rintro ⟨⟨a, b⟩, h, he⟩
    have := mem_pairs.1 h
    unfold cellAt at he
    split at he <;> cases he <;> exact ⟨by omega, by omega⟩
  · rintro ⟨hi, hj⟩
    refine ⟨cellAt k (i, j), ?_, cellAt_cellAt k _⟩
    unfold cellAt
    split
    · exact mem_pairs.2 ⟨hj, hi⟩
    · exact mem_pairs.2 ⟨hi, hj⟩
theorem mem_places {k n i j : Nat} : (i, j) ∈ places k n ↔ (i < n ∧ j < n) ∧ tells k i j = true := by
  unfold places; rw [List.mem_filter, mem_cells]
theorem toldUpto_zero (k n : Nat) : toldUpto k n 0 = [] := by simp [toldUpto]
theorem toldUpto_all (k n : Nat) : toldUpto k n (n * n) = places k n := by
  unfold toldUpto places; rw [List.take_of_length_le (by rw [pairs_length]; exact Nat.le_refl _)]
theorem toldUpto_next {k n a b : Nat} (ha : a < n) (hb : b < n) :
    toldUpto k n (a * n + b + 1) = toldUpto k n (a * n + b) ++ if tells k (cellAt k (a, b)).1 (cellAt k (a, b)).2 = true then [cellAt k (a, b)] else [] := by
  unfold toldUpto
  rw [List.take_add_one, pairs_get ha hb]
  simp only [Option.toList_some, List.map_append, List.filter_append, List.map_cons, List.map_nil, List.filter_cons, List.filter_nil]
theorem toldUpto_row {k n a : Nat} : toldUpto k n (a * n + n) = toldUpto k n ((a + 1) * n + 0) := by rw [Nat.add_mul, Nat.one_mul, Nat.add_zero]
theorem toldUpto_pre (k n s : Nat) : toldUpto k n s <+: places k n := by
  unfold toldUpto places
  exact ((List.take_prefix s (pairs n)).map _).filter _
theorem toldUpto_le (k n s : Nat) : (toldUpto k n s).length ≤ (places k n).length := (toldUpto_pre k n s).length_le
/-- The place of a step that is told is the next one. -/
theorem places_at {k n a b : Nat} (ha : a < n) (hb : b < n) (h : tells k (cellAt k (a, b)).1 (cellAt k (a, b)).2 = true) :
    (places k n)[(toldUpto k n (a * n + b)).length]? = some (cellAt k (a, b)) := by
  have h1 := toldUpto_next (k := k) ha hb
  rw [if_pos h] at h1
  have h2 := toldUpto_pre k n (a * n + b + 1)
  rw [h1] at h2
  obtain ⟨r, hr⟩ := h2
  rw [← hr]
  simp

/-! How many are told. -/
/-- Is step a, b told? -/
def told (k a b : Nat) : Bool := tells k (cellAt k (a, b)).1 (cellAt k (a, b)).2
theorem told_one (a b : Nat) : told 1 a b = true := by simp [told, tells]
theorem told_up {k a b : Nat} (hk : k = 2 ∨ k = 7) : told k a b = decide (a < b) := by rcases hk with rfl | rfl <;> simp [told, tells, cellAt]
theorem told_low {k a b : Nat} (hk : k = 3 ∨ k = 6) : told k a b = decide (b < a) := by rcases hk with rfl | rfl <;> simp [told, tells, cellAt]
theorem told_four (a b : Nat) : told 4 a b = decide (a ≤ b) := by simp [told, tells, cellAt]
theorem told_five (a b : Nat) : told 5 a b = decide (b ≤ a) := by simp [told, tells, cellAt]
/-- How many are told of the first b steps of row a. -/
def rowUp (k a : Nat) : Nat → Nat
  | 0 => 0
  | b + 1 => rowUp k a b + if told k a b = true then 1 else 0
theorem len_next {k n a b : Nat} (ha : a < n) (hb : b < n) : (toldUpto k n (a * n + b + 1)).length = (toldUpto k n (a * n + b)).length + if told k a b = true then 1 else 0 := by
  rw [toldUpto_next ha hb]
  unfold told
  split <;> simp
theorem len_row {k n a b : Nat} (ha : a < n) (hb : b ≤ n) : (toldUpto k n (a * n + b)).length = (toldUpto k n (a * n)).length + rowUp k a b := by
  induction b with
  | zero => simp [rowUp]
  | succ b ih => rw [← Nat.add_assoc, len_next ha (by omega), ih (by omega), rowUp]; omega
/-- How many are told ahead of row a, row by row. -/
def rowsUp (k n : Nat) : Nat → Nat
  | 0 => 0
  | a + 1 => rowsUp k n a + rowUp k a n
theorem len_rows {k n a : Nat} (ha : a ≤ n) : (toldUpto k n (a * n)).length = rowsUp k n a := by
  induction a with
  | zero => simp [rowsUp, toldUpto_zero]
  | succ a ih => rw [Nat.add_mul, Nat.one_mul, len_row (by omega) (Nat.le_refl n), ih (by omega), rowsUp]
theorem len_at {k n a b : Nat} (ha : a < n) (hb : b ≤ n) : (toldUpto k n (a * n + b)).length = rowsUp k n a + rowUp k a b := by
  rw [len_row ha hb, len_rows (by omega)]
def tri : Nat → Nat
  | 0 => 0
  | a + 1 => tri a + a
theorem tri_eq (a : Nat) : 2 * tri a = a * (a - 1) := by
  induction a with
  | zero => rfl
  | succ a ih =>
    cases a with
    | zero => rfl
    | succ c =>
      simp only [tri, Nat.add_sub_cancel] at ih ⊢
      have : (c + 1 + 1) * (c + 1) = (c + 1) * c + 2 * (c + 1) := by simp only [Nat.add_mul, Nat.mul_add]; omega
      omega
theorem tri_half (n : Nat) : n * (n - 1) / 2 = tri n := by have := tri_eq n; omega
theorem tri_half' (n : Nat) : n * (n + 1) / 2 = tri (n + 1) := by have := tri_eq (n + 1); rw [Nat.add_sub_cancel, Nat.mul_comm (n + 1) n] at this; omega
/-- The number of places. -/
def count (k n : Nat) : Nat := if k = 1 then n * n else if k = 4 ∨ k = 5 then n * (n + 1) / 2 else n * (n - 1) / 2
theorem rowUp_one (a b : Nat) : rowUp 1 a b = b := by induction b with | zero => rfl | succ b ih => rw [rowUp, ih, told_one]; rfl
theorem rowUp_low {k : Nat} (hk : k = 3 ∨ k = 6) (a b : Nat) : rowUp k a b = min b a := by
  induction b with
  | zero => simp [rowUp]
  | succ b ih => rw [rowUp, ih, told_low hk]; by_cases h : b < a <;> simp [h] <;> omega
theorem rowUp_five (a b : Nat) : rowUp 5 a b = min b (a + 1) := by
  induction b with
  | zero => simp [rowUp]
  | succ b ih => rw [rowUp, ih, told_five]; by_cases h : b ≤ a <;> simp [h] <;> omega
theorem rowUp_up {k : Nat} (hk : k = 2 ∨ k = 7) (a b : Nat) : rowUp k a b = b - (a + 1) := by
  induction b with
  | zero => simp [rowUp]
  | succ b ih => rw [rowUp, ih, told_up hk]; by_cases h : a < b <;> simp [h] <;> omega
theorem rowUp_four (a b : Nat) : rowUp 4 a b = b - a := by
  induction b with
  | zero => simp [rowUp]
  | succ b ih => rw [rowUp, ih, told_four]; by_cases h : a ≤ b <;> simp [h] <;> omega
theorem rows_one (n a : Nat) : rowsUp 1 n a = a * n := by induction a with | zero => simp [rowsUp] | succ a ih => rw [rowsUp, ih, rowUp_one, Nat.add_mul, Nat.one_mul]
theorem rows_low {k : Nat} (hk : k = 3 ∨ k = 6) {n a : Nat} (ha : a ≤ n) : rowsUp k n a = tri a := by
  induction a with
  | zero => rfl
  | succ a ih => rw [rowsUp, ih (by omega), rowUp_low hk, tri]; omega
theorem rows_five {n a : Nat} (ha : a ≤ n) : rowsUp 5 n a = tri (a + 1) := by
  induction a with
  | zero => rfl
  | succ a ih => rw [rowsUp, ih (by omega), rowUp_five]; show _ = tri (a + 1) + (a + 1); omega
theorem rows_up {k : Nat} (hk : k = 2 ∨ k = 7) {n a : Nat} (ha : a ≤ n) : rowsUp k n a + tri (n - a) = tri n := by
  induction a with
  | zero => simp [rowsUp]
  | succ a ih =>
    have h1 := ih (by omega)
    rw [rowsUp, rowUp_up hk]
    rw [show n - a = (n - (a + 1)) + 1 by omega, tri] at h1
    omega
theorem rows_four {n a : Nat} (ha : a ≤ n) : rowsUp 4 n a + tri (n + 1 - a) = tri (n + 1) := by
  induction a with
  | zero => simp [rowsUp]
  | succ a ih =>
    have h1 := ih (by omega)
    rw [rowsUp, rowUp_four]
    rw [show n + 1 - a = (n + 1 - (a + 1)) + 1 by omega, tri] at h1
    omega
theorem places_length {k n : Nat} (hk : 1 ≤ k) (hk7 : k ≤ 7) : (places k n).length = count k n := by
  rw [← toldUpto_all, len_rows (Nat.le_refl n)]
  unfold count
  rcases (show k = 1 ∨ (k = 2 ∨ k = 7) ∨ (k = 3 ∨ k = 6) ∨ k = 4 ∨ k = 5 by omega) with rfl | hk | hk | rfl | rfl
  · rw [if_pos rfl, rows_one]
  · rw [if_neg (by omega), if_neg (by omega), tri_half]
    have := rows_up hk (Nat.le_refl n)
    rw [Nat.sub_self] at this
    simp only [tri] at this
    omega
  · rw [if_neg (by omega), if_neg (by omega), tri_half, rows_low hk (Nat.le_refl n)]
  · rw [if_neg (by omega), if_pos (by omega), tri_half']
    have := rows_four (Nat.le_refl n)
    rw [show n + 1 - n = 1 by omega] at this
    simp only [tri] at this ⊢
    omega
  · rw [if_neg (by omega), if_pos (by omega), tri_half', rows_five (Nat.le_refl n)]

/-! Where a place stands. -/
/-- At which place stands what is told of row i and column j. -/
def rank (k n i j : Nat) : Nat := (toldUpto k n ((cellAt k (i, j)).1 * n + (cellAt k (i, j)).2)).length
theorem cellAt_lt {k n i j : Nat} (hi : i < n) (hj : j < n) : (cellAt k (i, j)).1 < n ∧ (cellAt k (i, j)).2 < n := by unfold cellAt; split <;> exact ⟨by assumption, by assumption⟩
theorem rank_at {k n i j : Nat} (hi : i < n) (hj : j < n) (h : tells k i j = true) : (places k n)[rank k n i j]? = some (i, j) := by
  obtain ⟨h1, h2⟩ := cellAt_lt (k := k) hi hj
  have h3 : cellAt k ((cellAt k (i, j)).1, (cellAt k (i, j)).2) = (i, j) := cellAt_cellAt k (i, j)
  have := places_at (k := k) h1 h2 (by rw [h3]; exact h)
  rw [h3] at this
  exact this
theorem rank_lt {k n i j : Nat} (hi : i < n) (hj : j < n) (h : tells k i j = true) : rank k n i j < (places k n).length := by
  obtain ⟨h1, _⟩ := List.getElem?_eq_some_iff.1 (rank_at hi hj h); exact h1
theorem rank_inj {k n i j p q : Nat} (hi : i < n) (hj : j < n) (hp : p < n) (hq : q < n) (h : tells k i j = true) (g : tells k p q = true) (e : rank k n i j = rank k n p q) : i = p ∧ j = q := by
  have h1 := rank_at hi hj h
  have h2 := rank_at hp hq g
  rw [e, h2] at h1
  have := Option.some.inj h1
  cases this
  exact ⟨rfl, rfl⟩
theorem rank_all {k n c : Nat} (hc : c < (places k n).length) : ∃ i j, i < n ∧ j < n ∧ tells k i j = true ∧ rank k n i j = c := by
  obtain ⟨⟨i, j⟩, h⟩ : ∃ q, (places k n)[c]? = some q := ⟨_, List.getElem?_eq_getElem hc⟩
  have hm := mem_places.1 (List.mem_of_getElem? h)
  refine ⟨i, j, hm.1.1, hm.1.2, hm.2, ?_⟩
  have h2 := rank_at hm.1.1 hm.1.2 hm.2
  exact ((List.getElem?_inj hc (places_nodup k n)).1 (by rw [h, h2])).symm
/-- The index of row i and column j, either way round. -/
def index (k n i j : Nat) : Int := if tells k i j = true then (rank k n i j : Int) else if tells k j i = true then (rank k n j i : Int) else -1
theorem index_swap {k n i j : Nat} (hk : k ≠ 1) (hk1 : 1 ≤ k) (hk7 : k ≤ 7) : index k n j i = index k n i j := by
  unfold index
  by_cases h : i = j
  · subst h; rfl
  · by_cases h1 : tells k i j = true
    · have h2 : ¬ tells k j i = true := by
        unfold tells at h1 ⊢
        rcases (show k = 2 ∨ k = 3 ∨ k = 4 ∨ k = 5 ∨ k = 6 ∨ k = 7 by omega) with rfl | rfl | rfl | rfl | rfl | rfl <;> simp at h1 ⊢ <;> omega
      simp [h1, h2]
    · by_cases h2 : tells k j i = true
      · simp [h1, h2]
      · simp [h1, h2]
/-! Matrices, and what is told of them. -/
def cell (m : List Int) (n i j : Nat) : Int := m.getD (i * n + j) 0
/-- The number of row i and column j of the matrix that l tells. -/
def val (l : List Int) (k n i j : Nat) : Int := if tells k i j = true then l.getD (rank k n i j) 0 else if tells k j i = true then l.getD (rank k n j i) 0 else 0
def grid (n : Nat) (f : Nat → Nat → Int) : List Int := (pairs n).map fun p => f p.1 p.2
def unpack (k n : Nat) (l : List Int) : List Int := grid n (val l k n)
def pack (k n : Nat) (m : List Int) : List Int := (places k n).map fun q => cell m n q.1 q.2
/-- Is the number of row i and column j one that a layout can't tell? -/
def bad (k n : Nat) (m : List Int) (i j : Nat) : Bool := (decide (k ≠ 1) && decide (cell m n i j ≠ cell m n j i)) || (decide (i = j) && (!tells k i i && decide (cell m n i i ≠ 0)))

theorem grid_length (n : Nat) (f : Nat → Nat → Int) : (grid n f).length = n * n := by simp [grid, pairs]
theorem grid_get {n i j : Nat} (f : Nat → Nat → Int) (hi : i < n) (hj : j < n) : (grid n f)[i * n + j]? = some (f i j) := by
  simp [grid, pairs_get hi hj]
theorem cell_grid {n i j : Nat} (f : Nat → Nat → Int) (hi : i < n) (hj : j < n) : cell (grid n f) n i j = f i j := by
  simp [cell, List.getD, grid_get f hi hj]
theorem step_of {n x : Nat} (hx : x < n * n) : x / n < n ∧ x % n < n ∧ x / n * n + x % n = x := by
  have hn : 0 < n := by rcases Nat.eq_zero_or_pos n with h0 | h0; · subst h0; simp at hx
                        · exact h0
  exact ⟨(Nat.div_lt_iff_lt_mul hn).2 hx, Nat.mod_lt _ hn, by rw [Nat.mul_comm]; exact Nat.div_add_mod x n⟩
/-- Lists of n times n numbers are the same if their cells are. -/
theorem ext_cells {n : Nat} {l r : List Int} (hl : l.length = n * n) (hr : r.length = n * n) (h : ∀ i j, i < n → j < n → l[i * n + j]? = r[i * n + j]?) : l = r := by
  apply List.ext_getElem?
  intro x
  by_cases hx : x < n * n
  · obtain ⟨h1, h2, h3⟩ := step_of hx
    have := h _ _ h1 h2
    rwa [h3] at this
  · rw [List.getElem?_eq_none (by omega), List.getElem?_eq_none (by omega)]
theorem grid_ext {n : Nat} {f g : Nat → Nat → Int} (h : ∀ i j, i < n → j < n → f i j = g i j) : grid n f = grid n g :=
  ext_cells (grid_length n f) (grid_length n g) fun i j hi hj => by rw [grid_get f hi hj, grid_get g hi hj, h i j hi hj]
theorem step_inj {n i j p q : Nat} (hj : j < n) (hq : q < n) (h : i * n + j = p * n + q) : i = p ∧ j = q := by
  have h1 : (i * n + j) / n = (p * n + q) / n := by rw [h]
  have h2 : (i * n + j) % n = (p * n + q) % n := by rw [h]
  rw [div_step hj, div_step hq] at h1
  rw [mod_step hj, mod_step hq] at h2
  exact ⟨h1, h2⟩
theorem grid_set {n p q : Nat} (f : Nat → Nat → Int) (v : Int) (hp : p < n) (hq : q < n) : (grid n f).set (p * n + q) v = grid n fun i j => if i = p ∧ j = q then v else f i j := by
  refine ext_cells (by simp [grid_length]) (grid_length _ _) fun i j hi hj => ?_
  rw [grid_get _ hi hj, List.getElem?_set]
  by_cases h : i = p ∧ j = q
  · obtain ⟨rfl, rfl⟩ := h
    rw [if_pos rfl, if_pos (by rw [grid_length]; exact step_lt hi hj), if_pos ⟨rfl, rfl⟩]
  · rw [if_neg (fun e => h (by have := step_inj hq hj e; exact ⟨this.1.symm, this.2.symm⟩)), if_neg h, grid_get f hi hj]
theorem grid_zero (n : Nat) : grid n (fun _ _ => 0) = List.replicate (n * n) 0 := by
  refine ext_cells (grid_length _ _) (by simp) fun i j hi hj => ?_
  rw [grid_get _ hi hj, List.getElem?_replicate, if_pos (step_lt hi hj)]

theorem tells_none {k i j : Nat} (hk : 1 ≤ k) (hk7 : k ≤ 7) (h : ¬ tells k i j = true) (h2 : ¬ tells k j i = true) : i = j := by
  unfold tells at h h2
  rcases (show k = 1 ∨ k = 2 ∨ k = 3 ∨ k = 4 ∨ k = 5 ∨ k = 6 ∨ k = 7 by omega) with rfl | rfl | rfl | rfl | rfl | rfl | rfl <;> simp at h h2 <;> omega
theorem tells_both {k i j : Nat} (hk : k ≠ 1) (hk1 : 1 ≤ k) (hk7 : k ≤ 7) (h : tells k i j = true) (h2 : tells k j i = true) : i = j := by
  unfold tells at h h2
  rcases (show k = 2 ∨ k = 3 ∨ k = 4 ∨ k = 5 ∨ k = 6 ∨ k = 7 by omega) with rfl | rfl | rfl | rfl | rfl | rfl <;> simp at h h2 <;> omega
theorem tells_full (i j : Nat) : tells 1 i j = true := by simp [tells]
theorem val_swap {l : List Int} {k n i j : Nat} (hk : k ≠ 1) (hk1 : 1 ≤ k) (hk7 : k ≤ 7) : val l k n i j = val l k n j i := by
  by_cases h : i = j
  · subst h; rfl
  · unfold val
    by_cases h1 : tells k i j = true
    · have h2 : ¬ tells k j i = true := fun h2 => h (tells_both hk hk1 hk7 h1 h2)
      simp [h1, h2]
    · by_cases h2 : tells k j i = true
      · simp [h1, h2]
      · simp [h1, h2]

theorem unpack_fits {k n : Nat} (hk1 : 1 ≤ k) (hk7 : k ≤ 7) (l : List Int) {i j : Nat} (hi : i < n) (hj : j < n) : bad k n (unpack k n l) i j = false := by
  unfold bad unpack
  rw [cell_grid _ hi hj, cell_grid _ hj hi, cell_grid _ hi hi]
  have h1 : (decide (k ≠ 1) && decide (val l k n i j ≠ val l k n j i)) = false := by
    by_cases hk : k = 1
    · simp [hk]
    · simp [val_swap (l := l) (n := n) (i := i) (j := j) hk hk1 hk7]
  have h2 : (!tells k i i && decide (val l k n i i ≠ 0)) = false := by
    by_cases h : tells k i i = true
    · simp [h]
    · simp [val, h]
  rw [h1, h2]; simp
theorem pack_length (k n : Nat) (m : List Int) : (pack k n m).length = (places k n).length := by simp [pack]
theorem pack_rank {k n i j : Nat} (m : List Int) (hi : i < n) (hj : j < n) (h : tells k i j = true) : (pack k n m).getD (rank k n i j) 0 = cell m n i j := by
  simp [pack, List.getD, rank_at hi hj h]
theorem pack_unpack {k n : Nat} {l : List Int} (hl : l.length = (places k n).length) : pack k n (unpack k n l) = l := by
  apply List.ext_getElem?
  intro c
  by_cases hc : c < (places k n).length
  · obtain ⟨i, j, hi, hj, ht, hr⟩ := rank_all hc
    have h1 := rank_at hi hj ht
    rw [hr] at h1
    simp only [pack, List.getElem?_map, h1, Option.map_some]
    rw [unpack, cell_grid _ hi hj, val, if_pos ht, hr]
    simp [List.getD, List.getElem?_eq_getElem (show c < l.length by omega)]
  · rw [List.getElem?_eq_none (by rw [pack_length]; omega), List.getElem?_eq_none (by omega)]
theorem unpack_pack {k n : Nat} {m : List Int} (hk1 : 1 ≤ k) (hk7 : k ≤ 7) (hm : m.length = n * n) (hf : ∀ i j, i < n → j < n → bad k n m i j = false) : unpack k n (pack k n m) = m := by
  refine ext_cells (grid_length _ _) hm fun i j hi hj => ?_
  rw [unpack, grid_get _ hi hj]
  have hc : m[i * n + j]? = some (cell m n i j) := by
    have := step_lt hi hj
    simp [cell, List.getD, List.getElem?_eq_getElem (show i * n + j < m.length by omega)]
  rw [hc]
  congr 1
  unfold val
  by_cases h1 : tells k i j = true
  · rw [if_pos h1, pack_rank m hi hj h1]
  · rw [if_neg h1]
    have hb := hf i j hi hj
    by_cases h2 : tells k j i = true
    · rw [if_pos h2, pack_rank m hj hi h2]
      have hk : k ≠ 1 := fun e => h1 (by rw [e]; exact tells_full i j)
      simp only [bad, Bool.or_eq_false_iff, Bool.and_eq_false_iff] at hb
      rcases hb.1 with h | h
      · exact absurd hk (by simpa using h)
      · have : cell m n i j = cell m n j i := by simpa using h
        exact this.symm
    · rw [if_neg h2]
      have e := tells_none hk1 hk7 h1 h2
      subst e
      simp only [bad, Bool.or_eq_false_iff] at hb
      have h3 : tells k i i = false := by simpa using h1
      have := hb.2
      rw [h3] at this
      have h4 : cell m n i i = 0 := by simpa using this
      exact h4.symm

/-! The loops of the document's own answer: step by step. -/
/-- Which step tells row i and column j. -/
def stepOf (k n i j : Nat) : Nat := (cellAt k (i, j)).1 * n + (cellAt k (i, j)).2
def valUpto (l : List Int) (k n s i j : Nat) : Int :=
  if tells k i j = true ∧ stepOf k n i j < s then l.getD (rank k n i j) 0
  else if k ≠ 1 ∧ tells k j i = true ∧ stepOf k n j i < s then l.getD (rank k n j i) 0 else 0
def matUpto (l : List Int) (k n s : Nat) : List Int := grid n (valUpto l k n s)
theorem matUpto_zero (l : List Int) (k n : Nat) : matUpto l k n 0 = List.replicate (n * n) 0 := by
  rw [← grid_zero]
  exact grid_ext fun i j _ _ => by simp [valUpto]
theorem stepOf_lt {k n i j : Nat} (hi : i < n) (hj : j < n) : stepOf k n i j < n * n := by
  obtain ⟨h1, h2⟩ := cellAt_lt (k := k) hi hj
  exact step_lt h1 h2
theorem matUpto_all (l : List Int) {k n : Nat} : matUpto l k n (n * n) = unpack k n l :=
  grid_ext fun i j hi hj => by
    have h1 := stepOf_lt (k := k) hi hj
    have h2 := stepOf_lt (k := k) hj hi
    unfold valUpto val
    by_cases h : tells k i j = true
    · simp [h, h1]
    · by_cases hk : k = 1
      · subst hk; exact absurd (tells_full i j) h
      · simp [h, hk, h2]
theorem stepOf_eq {k n i j a b : Nat} (hi : i < n) (hj : j < n) (hb : b < n) : stepOf k n i j = a * n + b ↔ (i, j) = cellAt k (a, b) := by
  obtain ⟨_, h2⟩ := cellAt_lt (k := k) hi hj
  constructor
  · intro h
    have h3 := step_inj h2 hb h
    have h4 : cellAt k (i, j) = (a, b) := Prod.ext h3.1 h3.2
    rw [← h4, cellAt_cellAt]
  · intro h
    unfold stepOf
    rw [h, cellAt_cellAt]
theorem matUpto_none {l : List Int} {k n a b : Nat} (hb : b < n) (h : told k a b = false) : matUpto l k n (a * n + b + 1) = matUpto l k n (a * n + b) :=
  grid_ext fun i j hi hj => by
    have key : ∀ p q, p < n → q < n → tells k p q = true → (stepOf k n p q < a * n + b + 1 ↔ stepOf k n p q < a * n + b) := by
      intro p q hp hq ht
      have : stepOf k n p q ≠ a * n + b := fun e => by
        have e2 := (stepOf_eq hp hq hb).1 e
        unfold told at h
        rw [← e2] at h
        rw [ht] at h
        cases h
      omega
    unfold valUpto
    have e1 : (tells k i j = true ∧ stepOf k n i j < a * n + b + 1) ↔ (tells k i j = true ∧ stepOf k n i j < a * n + b) := by
      constructor
      · exact fun h => ⟨h.1, (key i j hi hj h.1).1 h.2⟩
      · exact fun h => ⟨h.1, (key i j hi hj h.1).2 h.2⟩
    have e2 : (k ≠ 1 ∧ tells k j i = true ∧ stepOf k n j i < a * n + b + 1) ↔ (k ≠ 1 ∧ tells k j i = true ∧ stepOf k n j i < a * n + b) := by
      constructor
      · exact fun h => ⟨h.1, h.2.1, (key j i hj hi h.2.1).1 h.2.2⟩
      · exact fun h => ⟨h.1, h.2.1, (key j i hj hi h.2.1).2 h.2.2⟩
    simp only [e1, e2]
theorem rank_step {k n i j : Nat} : rank k n i j = (toldUpto k n (stepOf k n i j)).length := rfl
theorem matUpto_told {l : List Int} {k n a b i j : Nat} (hk1 : 1 ≤ k) (hk7 : k ≤ 7) (ha : a < n) (hb : b < n) (hc : cellAt k (a, b) = (i, j)) (h : told k a b = true) :
    matUpto l k n (a * n + b + 1) = if k = 1 then (matUpto l k n (a * n + b)).set (i * n + j) (l.getD (toldUpto k n (a * n + b)).length 0)
      else ((matUpto l k n (a * n + b)).set (i * n + j) (l.getD (toldUpto k n (a * n + b)).length 0)).set (j * n + i) (l.getD (toldUpto k n (a * n + b)).length 0) := by
  have hij : i < n ∧ j < n := by have := cellAt_lt (k := k) ha hb; rw [hc] at this; exact this
  have ht : tells k i j = true := by unfold told at h; rw [hc] at h; exact h
  have hs : stepOf k n i j = a * n + b := (stepOf_eq hij.1 hij.2 hb).2 hc.symm
  have hr : rank k n i j = (toldUpto k n (a * n + b)).length := by rw [rank_step, hs]
  have step : ∀ p q, p < n → q < n → (stepOf k n p q < a * n + b + 1 ↔ stepOf k n p q < a * n + b ∨ (p = i ∧ q = j)) := by
    intro p q hp hq
    have := stepOf_eq (k := k) (a := a) hp hq hb
    rw [hc, Prod.mk.injEq] at this
    omega
  rw [← hr]
  unfold matUpto
  by_cases hk : k = 1
  · rw [if_pos hk, grid_set _ _ hij.1 hij.2]
    refine grid_ext fun p q hp hq => ?_
    subst hk
    unfold valUpto
    simp only [tells_full, true_and, step p q hp hq, ne_eq, not_true_eq_false, false_and, if_false]
    by_cases e : p = i ∧ q = j
    · simp [e]
    · simp [e]
  · rw [if_neg hk, grid_set _ _ hij.1 hij.2, grid_set _ _ hij.2 hij.1]
    refine grid_ext fun p q hp hq => ?_
    unfold valUpto
    simp only [step p q hp hq, step q p hq hp]
    by_cases e1 : p = i ∧ q = j
    · obtain ⟨rfl, rfl⟩ := e1
      by_cases e2 : p = q
      · subst e2; simp [ht]
      · have : ¬ (p = q ∧ q = p) := fun e => e2 e.1
        simp [ht, this]
    · by_cases e2 : p = j ∧ q = i
      · obtain ⟨rfl, rfl⟩ := e2
        have hn : ¬ tells k p q = true := fun h3 => e1 (by have := tells_both hk hk1 hk7 h3 ht; exact ⟨this, this.symm⟩)
        simp [hn, hk, ht]
      · have e3 : ¬ (q = i ∧ p = j) := fun e => e2 ⟨e.2, e.1⟩
        simp only [e1, e2, e3, or_false, if_false, hk, ne_eq, not_false_eq_true, true_and]
/-- What is packed behind the first s steps. -/
def packUpto (m : List Int) (k n s : Nat) : List Int := (toldUpto k n s).map fun q => cell m n q.1 q.2
theorem packUpto_zero (m : List Int) (k n : Nat) : packUpto m k n 0 = [] := by simp [packUpto, toldUpto_zero]
theorem packUpto_all (m : List Int) (k n : Nat) : packUpto m k n (n * n) = pack k n m := by simp [packUpto, pack, toldUpto_all]
theorem packUpto_next {m : List Int} {k n a b i j : Nat} (ha : a < n) (hb : b < n) (hc : cellAt k (a, b) = (i, j)) :
    packUpto m k n (a * n + b + 1) = packUpto m k n (a * n + b) ++ if told k a b = true then [cell m n i j] else [] := by
  unfold packUpto told
  rw [toldUpto_next ha hb, hc]
  by_cases h : tells k i j = true <;> simp [h]
/-- May a matrix be told in a layout? -/
def fits (k n : Nat) (m : List Int) : Prop := ∀ i j, i < n → j < n → bad k n m i j = false
def fitsUpto (k n : Nat) (m : List Int) (s : Nat) : Prop := ∀ i j, i < n → j < n → stepOf k n i j < s → bad k n m i j = false
theorem fitsUpto_zero (k n : Nat) (m : List Int) : fitsUpto k n m 0 := fun _ _ _ _ h => absurd h (by omega)
theorem fitsUpto_all {k n : Nat} {m : List Int} : fitsUpto k n m (n * n) ↔ fits k n m := ⟨fun h i j hi hj => h i j hi hj (stepOf_lt hi hj), fun h i j hi hj _ => h i j hi hj⟩
theorem fitsUpto_next {k n a b i j : Nat} {m : List Int} (hb : b < n) (hc : cellAt k (a, b) = (i, j)) (h : fitsUpto k n m (a * n + b)) (hg : bad k n m i j = false) : fitsUpto k n m (a * n + b + 1) := by
  intro p q hp hq hs
  by_cases e : stepOf k n p q = a * n + b
  · have := (stepOf_eq hp hq hb).1 e
    rw [hc] at this
    cases this
    exact hg
  · exact h p q hp hq (by omega)
theorem not_fits {k n a b i j : Nat} {m : List Int} (ha : a < n) (hb : b < n) (hc : cellAt k (a, b) = (i, j)) (hg : bad k n m i j = true) : ¬ fits k n m := fun h => by
  have hij : i < n ∧ j < n := by have := cellAt_lt (k := k) ha hb; rw [hc] at this; exact this
  rw [h i j hij.1 hij.2] at hg
  cases hg

/-! Upper rows are lower columns. -/
theorem rowUp_told {k k' : Nat} (h : ∀ a b, told k a b = told k' a b) (a b : Nat) : rowUp k a b = rowUp k' a b := by
  induction b with
  | zero => rfl
  | succ b ih => rw [rowUp, rowUp, ih, h]
theorem rowsUp_told {k k' : Nat} (h : ∀ a b, told k a b = told k' a b) (n a : Nat) : rowsUp k n a = rowsUp k' n a := by
  induction a with
  | zero => rfl
  | succ a ih => rw [rowsUp, rowsUp, ih, rowUp_told h]
theorem rank_turn {k k' n i j : Nat} (h : ∀ a b, told k a b = told k' a b) (hc : cellAt k (i, j) = cellAt k' (j, i)) (hi : i < n) (hj : j < n) : rank k n i j = rank k' n j i := by
  unfold rank
  obtain ⟨h1, h2⟩ := cellAt_lt (k := k) hi hj
  rw [← hc, len_at h1 (by omega), len_at h1 (by omega), rowsUp_told h, rowUp_told h]
theorem unpack_turn {k k' n : Nat} (l : List Int) (hk : k' ≠ 1) (hk1 : 1 ≤ k') (hk7 : k' ≤ 7) (h : ∀ a b, told k a b = told k' a b) (hc : ∀ i j, cellAt k (i, j) = cellAt k' (j, i)) (ht : ∀ i j, tells k i j = tells k' j i) : unpack k n l = unpack k' n l :=
  grid_ext fun i j hi hj => by
    rw [val_swap (k := k') hk hk1 hk7]
    unfold val
    rw [ht i j, ht j i, rank_turn h (hc i j) hi hj, rank_turn h (hc j i) hj hi]
theorem unpack_seven (n : Nat) (l : List Int) : unpack 7 n l = unpack 2 n l :=
  unpack_turn l (by omega) (by omega) (by omega) (fun a b => by rw [told_up (.inr rfl), told_up (.inl rfl)]) (fun i j => by simp [cellAt]) (fun i j => by simp [tells])
theorem unpack_six (n : Nat) (l : List Int) : unpack 6 n l = unpack 3 n l :=
  unpack_turn l (by omega) (by omega) (by omega) (fun a b => by rw [told_low (.inr rfl), told_low (.inl rfl)]) (fun i j => by simp [cellAt]) (fun i j => by simp [tells])
/-- A matrix of upper rows may be told in every layout but the one of all. -/
theorem upper_fits {k n : Nat} (l : List Int) : fits k n (unpack 2 n l) := by
  intro i j hi hj
  have h := unpack_fits (k := 2) (by omega) (by omega) l hi hj
  have h0 := unpack_fits (k := 2) (by omega) (by omega) l hi hi
  simp only [bad, Bool.or_eq_false_iff] at h h0
  have e1 : cell (unpack 2 n l) n i j = cell (unpack 2 n l) n j i := by simpa using h.1
  have e2 : cell (unpack 2 n l) n i i = 0 := by have := h0.2; simp [tells] at this; exact this
  simp [bad, e1, e2]
theorem count_up (n : Nat) : count 4 n = count 2 n + n := by
  have h1 := tri_half n
  have h2 := tri_half' n
  simp only [count] at *
  simp
  rw [h1, h2, tri]

/-! Each place once. -/
/-- How many of the first s steps stand at place x, mirrored ones once. -/
def hits (k n s x : Nat) : Nat := ((pairs n).take s).countP fun p => (decide (p.1 ≤ p.2) || decide (k = 1)) && decide (index k n p.1 p.2 = (x : Int))
theorem hits_zero (k n x : Nat) : hits k n 0 x = 0 := by simp [hits]
theorem hits_next {k n a b x : Nat} (ha : a < n) (hb : b < n) :
    hits k n (a * n + b + 1) x = hits k n (a * n + b) x + if ((decide (a ≤ b) || decide (k = 1)) && decide (index k n a b = (x : Int))) = true then 1 else 0 := by
  unfold hits
  rw [List.take_add_one, pairs_get ha hb, Option.toList_some, List.countP_append, List.countP_singleton]
theorem countP_one {α : Type} {l : List α} {P : α → Bool} {x : α} (hl : l.Nodup) (hx : x ∈ l) (hP : P x = true) (hu : ∀ y ∈ l, P y = true → y = x) : l.countP P = 1 := by
  induction l with
  | nil => cases hx
  | cons y r ih =>
    rw [List.nodup_cons] at hl
    rcases List.mem_cons.1 hx with rfl | hx'
    · rw [List.countP_cons_of_pos hP]
      have : r.countP P = 0 := by
        rw [List.countP_eq_zero]
        intro z hz hPz
        exact hl.1 (hu z (List.mem_cons_of_mem _ hz) hPz ▸ hz)
      omega
    · have hy : ¬ P y = true := fun h => hl.1 (hu y (List.mem_cons_self ..) h ▸ hx')
      rw [List.countP_cons_of_neg hy]
      exact ih hl.2 hx' fun z hz h => hu z (List.mem_cons_of_mem _ hz) h
theorem index_told {k n i j : Nat} (h : tells k i j = true) : index k n i j = (rank k n i j : Int) := by unfold index; rw [if_pos h]
theorem hits_all {k n x : Nat} (hk1 : 1 ≤ k) (hk7 : k ≤ 7) (hx : x < (places k n).length) : hits k n (n * n) x = 1 := by
  obtain ⟨p, q, hp, hq, ht, hr⟩ := rank_all hx
  have hI : index k n p q = (x : Int) := by rw [index_told ht, hr]
  unfold hits
  rw [List.take_of_length_le (by rw [pairs_length]; exact Nat.le_refl _)]
  have uniq : ∀ a b, a < n → b < n → index k n a b = (x : Int) → (a = p ∧ b = q) ∨ (k ≠ 1 ∧ a = q ∧ b = p) := by
    intro a b ha hb h
    unfold index at h
    by_cases h1 : tells k a b = true
    · rw [if_pos h1] at h
      exact .inl (rank_inj ha hb hp hq h1 ht (by omega))
    · rw [if_neg h1] at h
      have hk : k ≠ 1 := fun e => h1 (by rw [e]; exact tells_full a b)
      by_cases h2 : tells k b a = true
      · rw [if_pos h2] at h
        have := rank_inj hb ha hp hq h2 ht (by omega)
        exact .inr ⟨hk, this.2, this.1⟩
      · rw [if_neg h2] at h; omega
  by_cases hk : k = 1
  · refine countP_one (x := (p, q)) (pairs_nodup n) (mem_pairs.2 ⟨hp, hq⟩) (by simp [hk]; rw [← hk]; exact hI) ?_
    rintro ⟨a, b⟩ hm h
    have hab := mem_pairs.1 hm
    simp only [Bool.and_eq_true, decide_eq_true_eq] at h
    rcases uniq a b hab.1 hab.2 h.2 with ⟨rfl, rfl⟩ | ⟨h3, _⟩
    · rfl
    · exact absurd hk h3
  · by_cases hpq : p ≤ q
    · refine countP_one (x := (p, q)) (pairs_nodup n) (mem_pairs.2 ⟨hp, hq⟩) (by simp [hpq, hI]) ?_
      rintro ⟨a, b⟩ hm h
      have hab := mem_pairs.1 hm
      simp only [Bool.and_eq_true, Bool.or_eq_true, decide_eq_true_eq] at h
      rcases uniq a b hab.1 hab.2 h.2 with ⟨rfl, rfl⟩ | ⟨_, rfl, rfl⟩
      · rfl
      · have : a = b := by omega
        subst this; rfl
    · refine countP_one (x := (q, p)) (pairs_nodup n) (mem_pairs.2 ⟨hq, hp⟩) (by simp [index_swap hk hk1 hk7, hI]; exact .inl (by omega)) ?_
      rintro ⟨a, b⟩ hm h
      have hab := mem_pairs.1 hm
      simp only [Bool.and_eq_true, Bool.or_eq_true, decide_eq_true_eq] at h
      rcases uniq a b hab.1 hab.2 h.2 with ⟨rfl, rfl⟩ | ⟨_, rfl, rfl⟩
      · omega
      · rfl
#print axioms pack_unpack
#print axioms unpack_pack
#print axioms matUpto_told
#print axioms upper_fits
#print axioms hits_all
end Go.Layout
/- The document's own answers for layer 7 on places: may, tells, row, column, at, Index, Count. Conditions: where a layout is asked of, that it is one. -/
namespace Go.Layout
def mayB (k n : Int) : Bool := (decide (1 ≤ k) && decide (k ≤ 7)) && (decide (1 ≤ n) && decide (n ≤ 400))
theorem mayB_true {k n : Int} (h : mayB k n = true) : (1 ≤ k ∧ k ≤ 7) ∧ 1 ≤ n ∧ n ≤ 400 := by simpa [mayB] using h
theorem mayB_nat {k n : Nat} (h1 : 1 ≤ k) (h2 : k ≤ 7) (h3 : 1 ≤ n) (h4 : n ≤ 400) : mayB k n = true := by simp [mayB]; omega
theorem rowUp_le (k a b : Nat) : rowUp k a b ≤ b := by
  induction b with
  | zero => exact Nat.le_refl _
  | succ b ih => rw [rowUp]; split <;> omega
theorem rowsUp_le (k n a : Nat) : rowsUp k n a ≤ a * n := by
  induction a with
  | zero => simp [rowsUp]
  | succ a ih => have := rowUp_le k a n; rw [rowsUp, Nat.add_mul]; omega
theorem told_row {k a b : Nat} (hk : k ≠ 6) (hk2 : k ≠ 7) : told k a b = tells k a b := by simp [told, cellAt, hk, hk2]
theorem told_col {k a b : Nat} (hk : k = 6 ∨ k = 7) : told k a b = tells k b a := by simp [told, cellAt, hk]
theorem rank_row {k n i j : Nat} (hk : k ≠ 6) (hk2 : k ≠ 7) (hi : i < n) (hj : j < n) : rank k n i j = rowsUp k n i + rowUp k i j := by
  unfold rank
  have : cellAt k (i, j) = (i, j) := by simp [cellAt, hk, hk2]
  rw [this, len_at hi (by omega)]
theorem rank_col {k n i j : Nat} (hk : k = 6 ∨ k = 7) (hi : i < n) (hj : j < n) : rank k n i j = rowsUp k n j + rowUp k j i := by
  unfold rank
  have : cellAt k (i, j) = (j, i) := by simp [cellAt, hk]
  rw [this, len_at hj (by omega)]
end Go.Layout
namespace Go.Proofs
open Go.RowKit Go.Shelf Go.Layout
attribute [local go_sem] Oper.semAt_some

theorem lret_is {a b : Bool} (h : a = b) : Ending.returned (.bool a) = .returned (.bool b) := by rw [h]
theorem lret_num {a b : Int} (h : a = b) : Ending.returned (.int .i64 a) = .returned (.int .i64 b) := by rw [h]



end Go.Proofs
/- The document's own answers for layout.Keyword and layout.Of. Conditions: none. -/
namespace Go.Layout
def lk1 : ByteArray := ⟨#[70, 85, 76, 76, 95, 77, 65, 84, 82, 73, 88]⟩
def lk2 : ByteArray := ⟨#[85, 80, 80, 69, 82, 95, 82, 79, 87]⟩
def lk3 : ByteArray := ⟨#[76, 79, 87, 69, 82, 95, 82, 79, 87]⟩
def lk4 : ByteArray := ⟨#[85, 80, 80, 69, 82, 95, 68, 73, 65, 71, 95, 82, 79, 87]⟩
def lk5 : ByteArray := ⟨#[76, 79, 87, 69, 82, 95, 68, 73, 65, 71, 95, 82, 79, 87]⟩
def lk6 : ByteArray := ⟨#[85, 80, 80, 69, 82, 95, 67, 79, 76]⟩
def lk7 : ByteArray := ⟨#[76, 79, 87, 69, 82, 95, 67, 79, 76]⟩
/-- The keyword of a layout. -/
def lkwS (k : Int) : ByteArray := if k = 1 then lk1 else if k = 2 then lk2 else if k = 3 then lk3 else if k = 4 then lk4 else if k = 5 then lk5 else if k = 6 then lk6 else if k = 7 then lk7 else ⟨#[]⟩
theorem lkwS_none {k : Int} (h : ¬ (1 ≤ k ∧ k ≤ 7)) : lkwS k = ⟨#[]⟩ := by unfold lkwS; rw [if_neg (by omega), if_neg (by omega), if_neg (by omega), if_neg (by omega), if_neg (by omega), if_neg (by omega), if_neg (by omega)]
def lkAt : Nat → ByteArray
  | 1 => lk1
  | 2 => lk2
  | 3 => lk3
  | 4 => lk4
  | 5 => lk5
  | 6 => lk6
  | _ => lk7
/-- The layout that has a keyword, sought from a place on, the number of places left; 0, if none has it. -/
def lofFrom (s : ByteArray) : Nat → Nat → Int
  | _, 0 => 0
  | j, n + 1 => if lkAt j = s then (j : Int) else lofFrom s (j + 1) n
def lofR (s : ByteArray) : Int := lofFrom s 1 7
end Go.Layout
namespace Go.Proofs
open Go.RowKit Go.Shelf Go.Layout
attribute [local go_sem] Oper.semAt_some

theorem ltext_beq {l : List UInt8} {s : ByteArray} (h : ¬ (⟨l.toArray⟩ : ByteArray) = s) : (l == s.toList) = false := by
  rw [beq_eq_false_iff_ne, Lib.toList_data]
  intro e
  apply h
  subst e
  cases s
  simp

theorem Tryz.RLKeyword_calls (k : Int) (w : World) :
    Calls Tryz.prog 60 #[.int .i64 k] w fun e w' => e = .returned (.string (lkwS k)) ∧ w' = w := by
  by_cases hk : 1 ≤ k ∧ k ≤ 7
  · rcases (show k = 1 ∨ k = 2 ∨ k = 3 ∨ k = 4 ∨ k = 5 ∨ k = 6 ∨ k = 7 by omega) with rfl | rfl | rfl | rfl | rfl | rfl | rfl
    all_goals
      go_enter Tryz.func60, Tryz.ntmps60
      go_wp2
      go_ret
      exact ⟨rfl, rfl⟩
  · rw [lkwS_none hk]
    have d1 : (k == 1) = false := beq_eq_false_iff_ne.2 (by omega)
    have d2 : (k == 2) = false := beq_eq_false_iff_ne.2 (by omega)
    have d3 : (k == 3) = false := beq_eq_false_iff_ne.2 (by omega)
    have d4 : (k == 4) = false := beq_eq_false_iff_ne.2 (by omega)
    have d5 : (k == 5) = false := beq_eq_false_iff_ne.2 (by omega)
    have d6 : (k == 6) = false := beq_eq_false_iff_ne.2 (by omega)
    have d7 : (k == 7) = false := beq_eq_false_iff_ne.2 (by omega)
    go_enter Tryz.func60, Tryz.ntmps60
    go_wp2
    go_ret
    exact ⟨rfl, rfl⟩

set_option maxRecDepth 100000 in
set_option maxHeartbeats 1000000 in
theorem Tryz.RLOf_calls (s : ByteArray) (w : World) :
    Calls Tryz.prog 40 #[.string s] w fun e w' => e = .returned (.int .i64 (lofR s)) ∧ w' = w := by
  have R1 : ∀ w : World, Calls Tryz.prog 60 #[.int .i64 1] w fun e w' => e = .returned (.string ⟨#[70, 85, 76, 76, 95, 77, 65, 84, 82, 73, 88]⟩) ∧ w' = w := fun w => Tryz.RLKeyword_calls 1 w
  have R2 : ∀ w : World, Calls Tryz.prog 60 #[.int .i64 2] w fun e w' => e = .returned (.string ⟨#[85, 80, 80, 69, 82, 95, 82, 79, 87]⟩) ∧ w' = w := fun w => Tryz.RLKeyword_calls 2 w
  have R3 : ∀ w : World, Calls Tryz.prog 60 #[.int .i64 3] w fun e w' => e = .returned (.string ⟨#[76, 79, 87, 69, 82, 95, 82, 79, 87]⟩) ∧ w' = w := fun w => Tryz.RLKeyword_calls 3 w
  have R4 : ∀ w : World, Calls Tryz.prog 60 #[.int .i64 4] w fun e w' => e = .returned (.string ⟨#[85, 80, 80, 69, 82, 95, 68, 73, 65, 71, 95, 82, 79, 87]⟩) ∧ w' = w := fun w => Tryz.RLKeyword_calls 4 w
  have R5 : ∀ w : World, Calls Tryz.prog 60 #[.int .i64 5] w fun e w' => e = .returned (.string ⟨#[76, 79, 87, 69, 82, 95, 68, 73, 65, 71, 95, 82, 79, 87]⟩) ∧ w' = w := fun w => Tryz.RLKeyword_calls 5 w
  have R6 : ∀ w : World, Calls Tryz.prog 60 #[.int .i64 6] w fun e w' => e = .returned (.string ⟨#[85, 80, 80, 69, 82, 95, 67, 79, 76]⟩) ∧ w' = w := fun w => Tryz.RLKeyword_calls 6 w
  have R7 : ∀ w : World, Calls Tryz.prog 60 #[.int .i64 7] w fun e w' => e = .returned (.string ⟨#[76, 79, 87, 69, 82, 95, 67, 79, 76]⟩) ∧ w' = w := fun w => Tryz.RLKeyword_calls 7 w
  go_enter Tryz.func40, Tryz.ntmps40
  go_wp2
  go_loop [3] (fun i => ∃ j : Nat, 1 ≤ j ∧ j ≤ 8 ∧ i = .int .i64 (j : Int) ∧ Hid (lofR s = lofFrom s j (8 - j))) (fun i => 8 - (intOf i).toNat)
  case atStart => exact ⟨1, by omega, by omega, rfl, rfl⟩
  case round =>
    obtain ⟨j, hj1, hj, rfl, hH⟩ := hrel
    by_cases hlt : j < 8
    · obtain ⟨m, hm⟩ : ∃ m, 8 - j = m + 1 := ⟨7 - j, by omega⟩
      have hH2 := hH.out
      rw [hm] at hH2
      simp only [lofFrom] at hH2
      clear hH
      have hm2 : 8 - (j + 1) = m := by omega
      rcases (show j = 1 ∨ j = 2 ∨ j = 3 ∨ j = 4 ∨ j = 5 ∨ j = 6 ∨ j = 7 by omega) with rfl | rfl | rfl | rfl | rfl | rfl | rfl
      all_goals
        simp only [lkAt, lk1, lk2, lk3, lk4, lk5, lk6, lk7] at hH2
        split at hH2
        · rename_i he
          subst he
          have HH := Lib.hid hH2
          clear hH2 hm hm2
          go_wp2_with (go_at_call 60; first
            | ((with_reducible refine (R1 _).mono ?_); rintro e w1 ⟨rfl, hw1⟩; obtain rfl : w = w1 := hw1.symm)
            | ((with_reducible refine (R2 _).mono ?_); rintro e w1 ⟨rfl, hw1⟩; obtain rfl : w = w1 := hw1.symm)
            | ((with_reducible refine (R3 _).mono ?_); rintro e w1 ⟨rfl, hw1⟩; obtain rfl : w = w1 := hw1.symm)
            | ((with_reducible refine (R4 _).mono ?_); rintro e w1 ⟨rfl, hw1⟩; obtain rfl : w = w1 := hw1.symm)
            | ((with_reducible refine (R5 _).mono ?_); rintro e w1 ⟨rfl, hw1⟩; obtain rfl : w = w1 := hw1.symm)
            | ((with_reducible refine (R6 _).mono ?_); rintro e w1 ⟨rfl, hw1⟩; obtain rfl : w = w1 := hw1.symm)
            | ((with_reducible refine (R7 _).mono ?_); rintro e w1 ⟨rfl, hw1⟩; obtain rfl : w = w1 := hw1.symm))
          go_ret
          exact ⟨lret_num HH.out.symm, rfl⟩
        · rename_i he
          have hne := ltext_beq he
          have HH := Lib.hid hH2
          have Hm := Lib.hid hm2
          clear hH2 hm hm2
          go_wp2_with (go_at_call 60; first
            | ((with_reducible refine (R1 _).mono ?_); rintro e w1 ⟨rfl, hw1⟩; obtain rfl : w = w1 := hw1.symm)
            | ((with_reducible refine (R2 _).mono ?_); rintro e w1 ⟨rfl, hw1⟩; obtain rfl : w = w1 := hw1.symm)
            | ((with_reducible refine (R3 _).mono ?_); rintro e w1 ⟨rfl, hw1⟩; obtain rfl : w = w1 := hw1.symm)
            | ((with_reducible refine (R4 _).mono ?_); rintro e w1 ⟨rfl, hw1⟩; obtain rfl : w = w1 := hw1.symm)
            | ((with_reducible refine (R5 _).mono ?_); rintro e w1 ⟨rfl, hw1⟩; obtain rfl : w = w1 := hw1.symm)
            | ((with_reducible refine (R6 _).mono ?_); rintro e w1 ⟨rfl, hw1⟩; obtain rfl : w = w1 := hw1.symm)
            | ((with_reducible refine (R7 _).mono ?_); rintro e w1 ⟨rfl, hw1⟩; obtain rfl : w = w1 := hw1.symm))
          go_round
          case rel =>
            have e := HH.out
            rw [← Hm.out] at e
            first | exact ⟨2, by omega, by omega, by go_num, Lib.hid e⟩ | exact ⟨3, by omega, by omega, by go_num, Lib.hid e⟩ | exact ⟨4, by omega, by omega, by go_num, Lib.hid e⟩ | exact ⟨5, by omega, by omega, by go_num, Lib.hid e⟩ | exact ⟨6, by omega, by omega, by go_num, Lib.hid e⟩ | exact ⟨7, by omega, by omega, by go_num, Lib.hid e⟩ | exact ⟨8, by omega, by omega, by go_num, Lib.hid e⟩
          case measure => simp [intOf]
    · obtain rfl : j = 8 := by omega
      go_wp2
      go_ret
      exact ⟨lret_num hH.out.symm, rfl⟩
#print axioms Tryz.RLOf_calls
end Go.Proofs
/- Plain facts on the lines of a matrix: from which cell to which one a layout tells them; no program. -/
namespace Go.Layout
/-- The first cell of line a that a layout tells, and the one behind the last. -/
def beg (k a : Nat) : Nat := if k = 2 ∨ k = 7 then a + 1 else if k = 4 then a else 0
def fin (k n a : Nat) : Nat := if k = 3 ∨ k = 6 then a else if k = 5 then a + 1 else n
theorem seven {k : Nat} (hk : 1 ≤ k) (hk7 : k ≤ 7) : k = 1 ∨ (k = 2 ∨ k = 7) ∨ (k = 3 ∨ k = 6) ∨ k = 4 ∨ k = 5 := by omega
theorem beg_le {k n a : Nat} (hk : 1 ≤ k) (hk7 : k ≤ 7) (ha : a < n) : beg k a ≤ fin k n a ∧ fin k n a ≤ n := by
  unfold beg fin
  rcases (show k = 1 ∨ k = 2 ∨ k = 3 ∨ k = 4 ∨ k = 5 ∨ k = 6 ∨ k = 7 by omega) with rfl | rfl | rfl | rfl | rfl | rfl | rfl <;> simp <;> omega
theorem told_span {k n a b : Nat} (hk : 1 ≤ k) (hk7 : k ≤ 7) (hb : b < n) : told k a b = (decide (beg k a ≤ b) && decide (b < fin k n a)) := by
  rcases seven hk hk7 with rfl | h | h | rfl | rfl
  · rw [told_one]; simp [beg, fin, hb]
  · rw [told_up h]; rcases h with rfl | rfl <;> simp [beg, fin, hb, Nat.succ_le_iff]
  · rw [told_low h]; rcases h with rfl | rfl <;> simp [beg, fin]
  · rw [told_four]; simp [beg, fin, hb]
  · rw [told_five]; simp [beg, fin, Nat.lt_succ_iff]
theorem rowUp_span {k n a b : Nat} (hk : 1 ≤ k) (hk7 : k ≤ 7) (hb : b ≤ n) : rowUp k a b = min b (fin k n a) - beg k a := by
  rcases seven hk hk7 with rfl | h | h | rfl | rfl
  · rw [rowUp_one]; simp [beg, fin]; omega
  · rw [rowUp_up h]; rcases h with rfl | rfl <;> simp [beg, fin] <;> omega
  · rw [rowUp_low h]; rcases h with rfl | rfl <;> simp [beg, fin]
  · rw [rowUp_four]; simp [beg, fin]; omega
  · rw [rowUp_five]; simp [beg, fin]
theorem rowUp_all {k n a : Nat} (hk : 1 ≤ k) (hk7 : k ≤ 7) (ha : a < n) : rowUp k a n = fin k n a - beg k a := by
  have := beg_le hk hk7 ha
  rw [rowUp_span hk hk7 (Nat.le_refl n)]; omega
theorem rowUp_in {k n a b : Nat} (hk : 1 ≤ k) (hk7 : k ≤ 7) (ha : a < n) (h2 : b ≤ fin k n a) : rowUp k a b = b - beg k a := by
  have := beg_le hk hk7 ha
  rw [rowUp_span (n := n) hk hk7 (by omega)]; omega
theorem rowsUp_next (k n a : Nat) : rowsUp k n (a + 1) = rowsUp k n a + rowUp k a n := rfl
theorem rowsUp_count {k n : Nat} (hk : 1 ≤ k) (hk7 : k ≤ 7) : rowsUp k n n = count k n := by
  rw [← places_length hk hk7, ← toldUpto_all, len_rows (Nat.le_refl n)]
theorem rowsUp_mono {k n a b : Nat} (h : a ≤ b) : rowsUp k n a ≤ rowsUp k n b := by
  induction b with
  | zero => rw [Nat.le_zero.1 h]; exact Nat.le_refl _
  | succ b ih =>
    rcases Nat.lt_or_ge b a with h1 | h1
    · rw [show a = b + 1 by omega]; exact Nat.le_refl _
    · exact Nat.le_trans (ih h1) (by rw [rowsUp_next]; omega)
/-! The steps that are told: lines and cells. -/
def steps (k n : Nat) : List (Nat × Nat) := (pairs n).filter fun p => told k p.1 p.2
theorem places_steps (k n : Nat) : places k n = (steps k n).map (cellAt k) := by
  unfold places steps told; rw [List.filter_map]; rfl
theorem steps_length (k n : Nat) : (steps k n).length = rowsUp k n n := by
  have h : (places k n).length = (steps k n).length := by rw [places_steps, List.length_map]
  rw [← h, ← toldUpto_all, len_rows (Nat.le_refl n)]
theorem steps_get {k n a b : Nat} (ha : a < n) (hb : b < n) (h : told k a b = true) : (steps k n)[rowsUp k n a + rowUp k a b]? = some (a, b) := by
  have h1 := places_at (k := k) ha hb h
  rw [len_at ha (by omega), places_steps, List.getElem?_map, Option.map_eq_some_iff] at h1
  obtain ⟨p, h2, h3⟩ := h1
  rw [h2, cellAt_inj h3]
theorem mem_steps {k n a b : Nat} : (a, b) ∈ steps k n ↔ (a < n ∧ b < n) ∧ told k a b = true := by
  unfold steps; rw [List.mem_filter, mem_pairs]
/-! Columns are told as rows, mirrored. -/
def rowK (k : Nat) : Nat := if k = 6 then 3 else if k = 7 then 2 else k
theorem rowK_in {k : Nat} (hk : 1 ≤ k) (hk7 : k ≤ 7) : 1 ≤ rowK k ∧ rowK k ≤ 5 := by unfold rowK; split <;> (try split) <;> omega
theorem rowK_one {k : Nat} : rowK k = 1 ↔ k = 1 := by unfold rowK; split <;> (try split) <;> omega
theorem told_rowK (k a b : Nat) : told (rowK k) a b = told k a b := by
  unfold rowK
  split
  · rename_i h; subst h; rw [told_low (.inl rfl), told_low (.inr rfl)]
  · split
    · rename_i h; subst h; rw [told_up (.inl rfl), told_up (.inr rfl)]
    · rfl
theorem steps_rowK (k n : Nat) : steps (rowK k) n = steps k n := by unfold steps; simp only [told_rowK]
theorem places_rowK {k : Nat} (hk : 1 ≤ k) (hk7 : k ≤ 7) (n : Nat) : places (rowK k) n = steps k n := by
  have h := rowK_in hk hk7
  have h2 : cellAt (rowK k) = id := funext fun p => by unfold cellAt; rw [if_neg (by omega)]; rfl
  rw [places_steps, steps_rowK, h2, List.map_id]
theorem unpack_rowK (k n : Nat) (l : List Int) : unpack (rowK k) n l = unpack k n l := by
  unfold rowK
  split
  · rename_i h; subst h; exact (unpack_six n l).symm
  · split
    · rename_i h; subst h; exact (unpack_seven n l).symm
    · rfl
theorem bad_rowK (k n : Nat) (m : List Int) (i j : Nat) : bad (rowK k) n m i j = bad k n m i j := by
  have h1 : decide (rowK k ≠ 1) = decide (k ≠ 1) := by simp only [ne_eq, rowK_one]
  have h2 : tells (rowK k) i i = tells k i i := by
    unfold rowK
    split
    · rename_i h; subst h; simp [tells]
    · split
      · rename_i h; subst h; simp [tells]
      · rfl
  unfold bad; rw [h1, h2]
theorem fits_rowK (k n : Nat) (m : List Int) : fits (rowK k) n m ↔ fits k n m := by unfold fits; simp only [bad_rowK]
/-- The numbers that stand at the steps of a layout. -/
def gath (k n : Nat) (m : List Int) : List Int := (steps k n).map fun p => cell m n p.1 p.2
theorem gath_rowK {k : Nat} (hk : 1 ≤ k) (hk7 : k ≤ 7) (n : Nat) (m : List Int) : gath k n m = pack (rowK k) n m := by unfold gath pack; rw [places_rowK hk hk7]
theorem gath_pack {k n : Nat} {m : List Int} (h : fits k n m) : gath k n m = pack k n m := by
  unfold gath pack
  rw [places_steps, List.map_map]
  refine List.map_congr_left fun ⟨a, b⟩ hp => ?_
  have hm := (mem_steps.1 hp).1
  simp only [Function.comp]
  unfold cellAt
  split
  · rename_i hc
    have hb := h a b hm.1 hm.2
    simp only [bad, Bool.or_eq_false_iff, Bool.and_eq_false_iff] at hb
    rcases hb.1 with h1 | h1
    · have : k = 1 := by simpa using h1
      omega
    · simpa using h1
  · rfl
theorem back_fits {k n : Nat} (hk : 1 ≤ k) (hk7 : k ≤ 7) {m : List Int} (hm : m.length = n * n) : unpack k n (gath k n m) = m ↔ fits k n m := by
  have hr := rowK_in hk hk7
  rw [gath_rowK hk hk7, ← unpack_rowK, ← fits_rowK]
  constructor
  · intro h
    intro i j hi hj
    have := unpack_fits (k := rowK k) hr.1 (by omega) (pack (rowK k) n m) hi hj
    rw [h] at this
    exact this
  · exact fun h => unpack_pack hr.1 (by omega) hm h
/-! A matrix that is filled step by step. -/
def fill (l : List Int) (k n : Nat) : Nat → List Int
  | 0 => List.replicate (n * n) 0
  | t + 1 => match (steps k n)[t]? with
    | some (a, b) => if k = 1 then (fill l k n t).set (a * n + b) (l.getD t 0) else ((fill l k n t).set (a * n + b) (l.getD t 0)).set (b * n + a) (l.getD t 0)
    | none => fill l k n t
theorem fill_next {l : List Int} {k n t a b : Nat} (h : (steps k n)[t]? = some (a, b)) :
    fill l k n (t + 1) = if k = 1 then (fill l k n t).set (a * n + b) (l.getD t 0) else ((fill l k n t).set (a * n + b) (l.getD t 0)).set (b * n + a) (l.getD t 0) := by
  rw [fill]; simp only [h]
theorem fill_mat {l : List Int} {k n : Nat} (hk : 1 ≤ k) (hk7 : k ≤ 7) : ∀ s, s ≤ n * n → fill l k n (toldUpto (rowK k) n s).length = matUpto l (rowK k) n s := by
  have hr := rowK_in hk hk7
  intro s
  induction s with
  | zero => intro _; rw [toldUpto_zero, matUpto_zero]; rfl
  | succ s ih =>
    intro hs
    obtain ⟨ha, hb, hab⟩ := step_of (show s < n * n by omega)
    have ih := ih (by omega)
    obtain ⟨a, hae⟩ : ∃ a, s / n = a := ⟨_, rfl⟩
    obtain ⟨b, hbe⟩ : ∃ b, s % n = b := ⟨_, rfl⟩
    rw [hae] at ha hab
    rw [hbe] at hb hab
    rw [← hab] at ih ⊢
    have hc : cellAt (rowK k) (a, b) = (a, b) := by unfold cellAt; rw [if_neg (by omega)]
    rw [len_next ha hb]
    by_cases ht : told (rowK k) a b = true
    · rw [if_pos ht, matUpto_told hr.1 (by omega) ha hb hc ht, ← ih]
      have h1 := steps_get (k := rowK k) ha hb ht
      rw [steps_rowK, ← len_at ha (by omega)] at h1
      rw [fill_next h1]
      simp only [rowK_one]
    · rw [if_neg ht, matUpto_none hb (by simpa using ht), Nat.add_zero]; exact ih
theorem fill_all {l : List Int} {k n : Nat} (hk : 1 ≤ k) (hk7 : k ≤ 7) : fill l k n (steps k n).length = unpack k n l := by
  have h := fill_mat (l := l) hk hk7 (n * n) (Nat.le_refl _)
  rw [matUpto_all, unpack_rowK, toldUpto_all, places_rowK hk hk7] at h
  exact h
/-! At which place a step stands. -/
def placeE (k n a b : Nat) : Int := if told k a b = true then ((rowsUp k n a + rowUp k a b : Nat) : Int) else -1
theorem index_place {k n i j : Nat} (hk : 1 ≤ k) (hk7 : k ≤ 7) (hi : i < n) (hj : j < n) : (if 0 ≤ placeE k n i j then placeE k n i j else placeE k n j i) = index k n i j := by
  have key : ∀ p q, p < n → q < n → placeE k n p q = if tells k (cellAt k (p, q)).1 (cellAt k (p, q)).2 = true then (rank k n (cellAt k (p, q)).1 (cellAt k (p, q)).2 : Int) else -1 := by
    intro p q hp hq
    unfold placeE
    by_cases hc : k = 6 ∨ k = 7
    · have hx : cellAt k (p, q) = (q, p) := by simp [cellAt, hc]
      rw [hx, told_col hc, rank_col hc hq hp]
    · have hx : cellAt k (p, q) = (p, q) := by simp [cellAt, hc]
      rw [hx, told_row (by omega) (by omega), rank_row (by omega) (by omega) hp hq]
  rw [key i j hi hj, key j i hj hi]
  by_cases hc : k = 6 ∨ k = 7
  · have hx : cellAt k (i, j) = (j, i) := by simp [cellAt, hc]
    have hy : cellAt k (j, i) = (i, j) := by simp [cellAt, hc]
    rw [hx, hy, ← index_swap (by omega) hk hk7]
    unfold index
    by_cases h1 : tells k j i = true
    · simp [h1]
    · simp [h1]
  · have hx : cellAt k (i, j) = (i, j) := by simp [cellAt, hc]
    have hy : cellAt k (j, i) = (j, i) := by simp [cellAt, hc]
    rw [hx, hy]
    unfold index
    by_cases h1 : tells k i j = true
    · simp [h1]
    · simp [h1]
#print axioms back_fits
#print axioms fill_all
#print axioms index_place
end Go.Layout
/- My own law for 'for x := range f': the list of the elements that f yields is known ahead; f may itself be a loop over another function, whose rounds call yield. Conditions: a walk at the fence that asks nothing; no panic and no defer in a round. -/
namespace Go
open Go.RowKit

/-- What a round keeps: whatever is no cells and lies at or beyond B, and all cells of the types in T. -/
structure RF (T : Nat → TypeId → Bool) (B : Nat) (W W' : World) : Prop where
  size : W.heap.size ≤ W'.heap.size
  other : ∀ (k : Nat) (o : Obj), B ≤ k → W.heap[k]? = some o → o.isCells = false → W'.heap[k]? = some o
  steady : ∀ (k : Nat) (c : Array Value) (t : TypeId) (z : Nat × Nat), T k t = true → W.heap[k]? = some (.cells c t z) → W'.heap[k]? = some (.cells c t z)

variable {T : Nat → TypeId → Bool} {B : Nat}
theorem RF.refl (W : World) : RF T B W W := ⟨Nat.le_refl _, fun _ _ _ h _ => h, fun _ _ _ _ _ h => h⟩
theorem RF.trans {X Y Z : World} (h : RF T B X Y) (k : RF T B Y Z) : RF T B X Z :=
  ⟨Nat.le_trans h.size k.size, fun i o hB hi ho => k.other i o hB (h.other i o hB hi ho) ho, fun i c t z ht hi => k.steady i c t z ht (h.steady i c t z ht hi)⟩
theorem RF.mono {B' : Nat} {X Y : World} (h : RF T B X Y) (hB : B ≤ B') : RF T B' X Y := ⟨h.size, fun i o hi => h.other i o (Nat.le_trans hB hi), h.steady⟩
theorem RF.alloc {X Y : World} (h : RF T B X Y) (o : Obj) : RF T B X (Y.alloc o) :=
  h.trans ⟨by simp, fun k _ _ hk _ => (Below.heap_alloc Y o k (Array.getElem?_eq_some_iff.1 hk).1).trans hk, fun k _ _ _ _ hk => (Below.heap_alloc Y o k (Array.getElem?_eq_some_iff.1 hk).1).trans hk⟩
theorem RF.drew {X Y : World} (h : RF T B X Y) : RF T B X Y.drew := ⟨h.size, h.other, h.steady⟩
/-- A step that turns one block of cells, of a type that is not in T. -/
theorem RF.grown {X Y Z : World} (h : RF T B X Y) {row : Option Nat} (hg : Y.grownBy Z row)
    (hr : ∀ j, row = some j → ∀ o, Y.heap[j]? = some o → ∃ c t z, o = .cells c t z ∧ T j t = false) : RF T B X Z := by
  refine h.trans ⟨hg.size, fun k o _ hk ho => ?_, fun k c t z ht hk => ?_⟩
  · refine (hg.block k (Array.getElem?_eq_some_iff.1 hk).1 (fun e => ?_)).trans hk
    obtain ⟨c, t, z, rfl, _⟩ := hr k e.symm o hk
    simp [Obj.isCells] at ho
  · refine (hg.block k (Array.getElem?_eq_some_iff.1 hk).1 (fun e => ?_)).trans hk
    obtain ⟨c', t', z', h1, h2⟩ := hr k e.symm _ hk
    cases h1
    rw [h2] at ht; cases ht
theorem RF.set {X Y : World} (h : RF T B X Y) {b : Nat} {t : TypeId} {u : Value} (hb : Boxed Y b t u) (ht : T b t = false) (v : Value) : RF T B X (Y.setCell ⟨b, 0, none⟩ v) :=
  h.grown (grownBy_setCell' Y b v) (fun j e o ho => by cases e; rw [show Y.heap[b]? = _ from hb] at ho; cases ho; exact ⟨_, _, _, rfl, ht⟩)
theorem RF.put {X Y : World} (h : RF T B X Y) {l : Nat} {o o' : Obj} (hl : Y.heap[l]? = some o) (ho : o.isCells = false) (hB : l < B) : RF T B X (Y.putObj l o') := by
  refine h.trans ⟨by simp, fun k _ hk hk' _ => (World.putObj_heap_other (by omega)).trans hk', fun k c t z _ hk => (World.putObj_heap_other (fun e => ?_)).trans hk⟩
  subst e; rw [hl] at hk; cases hk; simp [Obj.isCells] at ho
theorem RF.boxed {X Y : World} (h : RF T B X Y) {b : Nat} {t : TypeId} {u : Value} (hb : Boxed X b t u) (ht : T b t = true) : Boxed Y b t u := h.steady b _ t _ ht hb
theorem RF.keepsFrom {X Y : World} (h : RF T B X Y) : KeepsFrom B X Y := ⟨h.size, h.other⟩

theorem Boxed.at {W : World} (t : TypeId) (v : Value) {m : Nat} (h : W.heap.size = m) : Boxed (W.alloc (.cells #[v] t)) m t v := by rw [← h]; exact Boxed.new W t v
theorem Boxed.own {X Y : World} {b : Nat} {t : TypeId} {v : Value} (h : Boxed X b t v) {row : Option Nat} (hg : X.grownBy Y row) {B' : Nat} (hr : ∀ r, row = some r → B' ≤ r ∧ ∃ o : Obj, X.heap[r]? = some o ∧ o.isCells = false) : Boxed Y b t v :=
  h.kept hg (fun e => by obtain ⟨_, o, ho, hc⟩ := hr b e.symm; rw [show X.heap[b]? = _ from h] at ho; cases ho; cases hc)
theorem RowKit.Below.own {n₀ : Nat} {w X Y : World} (h : Below n₀ w X) (hn : n₀ ≤ w.heap.size) {row : Option Nat} (hg : X.grownBy Y row) {B' : Nat} (hB : n₀ ≤ B') (hr : ∀ r, row = some r → B' ≤ r ∧ ∃ o : Obj, X.heap[r]? = some o ∧ o.isCells = false) : Below n₀ w Y :=
  h.grown hg (Nat.le_trans hn h.size) (fun k e => Nat.le_trans hB (hr k e).1)
theorem Boxed.drew {W : World} {b : Nat} {t : TypeId} {v : Value} (h : Boxed W b t v) : Boxed W.drew b t v := h
theorem Boxed.put {W : World} {b : Nat} {t : TypeId} {v : Value} (h : Boxed W b t v) {l : Nat} {o : Obj} (o' : Obj) (hl : W.heap[l]? = some o) (ho : o.isCells = false) : Boxed (W.putObj l o') b t v :=
  h.kept (grownBy_putObj' W l o') (fun e => by cases e; rw [show W.heap[b]? = _ from h] at hl; cases hl; cases ho)
theorem RowKit.Below.put {n₀ : Nat} {w W : World} (h : Below n₀ w W) (hn : n₀ ≤ w.heap.size) {l : Nat} {o : Obj} (hl : n₀ ≤ l) : Below n₀ w (W.putObj l o) :=
  h.grown (grownBy_putObj' W l o) (Nat.le_trans hn h.size) (fun k e => by cases e; exact hl)

theorem RoundIn.into {F : Fence} {n : Nat} {P : Program} {l : Nat} {f : FuncId} {tmps : Array Value} {assign body : Code} {w : World} {R : Ending → World → Prop} (l' : Nat) (h : RoundIn F n P l f tmps assign body w R) : RoundIn (F.inRound l') n P l f tmps assign body w R := h
theorem RowKit.Below.grownBy {n₀ : Nat} {w W : World} (h : Below n₀ w W) (hn : w.heap.size ≤ n₀) : w.grownBy W none :=
  ⟨h.os, h.tape, h.output, h.size, fun k hk _ => h.block k (by omega)⟩
theorem OwnFrom.below {β : Type} {B n₀ : Nat} {I : β → World → Prop} (h : OwnFrom B I) {s : β} {w W : World} (hs : I s w) (hb : Below n₀ w W) (hn : w.heap.size ≤ n₀) : I s W :=
  h s w W none hs (hb.grownBy hn) (fun r e => by cases e)
theorem RF.below {X Y Z : World} {n₀ : Nat} (h : RF T B X Y) (hb : Below n₀ Y Z) (hn : Y.heap.size ≤ n₀) : RF T B X Z :=
  h.grown (hb.grownBy hn) (fun j e => by cases e)
theorem Boxed.below {X Y : World} {b n₀ : Nat} {t : TypeId} {v : Value} (h : Boxed X b t v) (hb : Below n₀ X Y) (hn : b < n₀) : Boxed Y b t v := (hb.block b hn).trans h

/-- The contract of an iterator value: each element of xs, in its order, till a round says no more. -/
def Seq (T : Nat → TypeId → Bool) (P : Program) (gf : Nat) (lb : Array Value) (xs : List (Array Value)) (w : World) : Prop :=
  ∀ (l : Nat) (J : Nat → World → Prop) (Jx : World → Prop) (W : World), Below w.heap.size w W → OwnFrom W.heap.size J → OwnFrom W.heap.size (fun (_ : Unit) => Jx) →
    (∀ (k : Nat) (x : Array Value) (W1 : World), xs[k]? = some x → J k W1 → YieldAt Fence.wide 0 P l x W1 fun e W' => RF T W.heap.size W1 W' ∧ ((e = .returned (.bool true) ∧ J (k + 1) W') ∨ (e = .returned (.bool false) ∧ Jx W'))) →
    J 0 W →
    Calls P gf (#[.func (.yield l) #[] #[]] ++ lb) W fun e W' => (∃ v, e = .returned v) ∧ (J xs.length W' ∨ Jx W')

theorem Seq.later {P : Program} {gf : Nat} {lb : Array Value} {xs : List (Array Value)} {w w' : World} (h : Seq T P gf lb xs w) (hb : Below w.heap.size w w') : Seq T P gf lb xs w' :=
  fun l J Jx W hW => h l J Jx W (hb.trans (hW.mono hb.size))

/-- How the body of a round may be left. -/
def seqPost (T : Nat → TypeId → Bool) (B : Nat) (I : Nat → World → Prop) (Ix : Code → World → Prop) (k : Nat) (W : World) : Exit → Act → World → Prop
  | .normal, _, W' => RF T B W W' ∧ I (k + 1) W'
  | .ret, _, W' => RF T B W W' ∧ Ix .ret W'
  | .exit id, _, W' => RF T B W W' ∧ Ix (.exit id) W'
  | .goto t, _, W' => RF T B W W' ∧ Ix (.goto t) W'
  | .panic _, _, _ => False
  | .outgrown, _, _ => False

theorem range_seq {P : Program} {g : Operand} {ps : Array Tmp} {assign body : Code} {Q : Exit → Act → World → Prop} {a : Act} {w : World}
    {gf : Nat} {lb : Array Value} (hg : a.eval g = .func (.func gf) #[] lb) (eg : ∀ args w, (callFunc gf args).run P w = .ok (.enter gf args) w)
    {xs : List (Array Value)} {w0 : World} (hseq : Seq T P gf lb xs w0) (hb0 : Below w0.heap.size w0 w) (hps : ∀ (k : Nat) (x : Array Value), xs[k]? = some x → x.size = ps.size)
    (I : Nat → World → Prop) (Ix : Code → World → Prop) (hI : OwnFrom w.heap.size I) (hIx : ∀ c, OwnFrom w.heap.size (fun (_ : Unit) => Ix c)) (h0 : I 0 w)
    (Ax : Array Value → Act → World → Prop) (hAx : ∀ x a', OwnFrom w.heap.size (fun (_ : Unit) W => Ax x a' W))
    (hassign : ∀ (l k : Nat) (x : Array Value) (W : World) (K : Act → World → Prop), xs[k]? = some x → I k W → (∀ a' W', RF T w.heap.size W W' → I k W' → Ax x a' W' → K a' W') →
      assign.wpIn (Fence.wide.inRound l) 0 P (Exit.then K (fun _ _ _ => False)) { tmps := (ps.zip x).foldl (fun t (p, v) => t.setIfInBounds p v) a.tmps, defers := [] } W)
    (hbody : ∀ (l k : Nat) (x : Array Value) (a' : Act) (W : World), xs[k]? = some x → I k W → Ax x a' W → body.wpIn (Fence.wide.inRound l) 0 P (seqPost T w.heap.size I Ix k W) a' W)
    (hdone : ∀ (D : Nat) (W : World), w.heap.size ≤ D → I xs.length W → W.heap[D]? = some (.deferred (some [])) → Q .normal { a with defers := { target := .collected D, args := #[] } :: a.defers } W)
    (hstop : ∀ (D : Nat) (c : Code) (W : World), w.heap.size ≤ D → Ix c W → W.heap[D]? = some (.deferred (some [])) → c.wpIn Fence.wide 0 P Q { a with defers := { target := .collected D, args := #[] } :: a.defers } W) :
    (Code.rangeFunc g ps assign body).wpIn Fence.wide 0 P Q a w := by
  refine wpIn_rangeFunc fun fn hfn => ?_
  -- the record, and the two new blocks
  let rec' : LoopState → Option Code → Loop := fun st pe => { state := st, pending := pe, fn, tmps := a.tmps, params := ps, assign, body, defers := w.heap.size }
  obtain ⟨D, hD⟩ : ∃ D, D = w.heap.size := ⟨_, rfl⟩
  obtain ⟨V, hV⟩ : ∃ V, V = (w.alloc (.deferred (some []))).alloc (.loop (rec' .ready none)) := ⟨_, rfl⟩
  have hVs : V.heap.size = D + 2 := by rw [hV, hD]; simp
  have vl : V.heap[D + 1]? = some (.loop (rec' .ready none)) := by
    have h := World.alloc_heap_new (w.alloc (.deferred (some []))) (.loop (rec' .ready none))
    rw [World.size_alloc, ← hV, ← hD] at h; exact h
  have vd : V.heap[D]? = some (.deferred (some [])) := by
    rw [hV, hD]; exact (Below.heap_alloc _ _ _ (by simp)).trans (World.alloc_heap_new w _)
  have vI : I 0 V := by rw [hV]; exact hI.alloc _ (hI.alloc _ h0)
  have vb : Below w0.heap.size w0 V := by
    rw [hV]; exact hb0.trans ((((Below.refl _ w).alloc (Nat.le_refl _) _).alloc (by simp) _).mono hb0.size)
  -- what the iterator may turn is neither cells nor the two
  have keep : ∀ {A C : World} {row : Option Nat}, A.grownBy C row → (∀ r, row = some r → V.heap.size ≤ r ∧ ∃ o : Obj, A.heap[r]? = some o ∧ o.isCells = false) → ∀ j o, j < D + 2 → A.heap[j]? = some o → C.heap[j]? = some o :=
    fun hg' hr j o hj ho => (hg'.block j (Array.getElem?_eq_some_iff.1 ho).1 (fun e => by have := (hr j e.symm).1; omega)).trans ho
  have wide : ∀ {A : World} {row : Option Nat}, (∀ r, row = some r → V.heap.size ≤ r ∧ ∃ o : Obj, A.heap[r]? = some o ∧ o.isCells = false) → (∀ r, row = some r → w.heap.size ≤ r ∧ ∃ o : Obj, A.heap[r]? = some o ∧ o.isCells = false) :=
    fun hr r e => ⟨by have := (hr r e).1; omega, (hr r e).2⟩
  refine ⟨D + 1, [{ target := .collected D, args := #[] }], V, { target := .fn (.func gf) lb, args := #[.func (.yield (D + 1)) #[] #[]] }, V, gf, #[.func (.yield (D + 1)) #[] #[]] ++ lb, V, ?_, ?_, fun _ _ => trivial, ?_, fun h => (by cases h), ?_⟩
  · rw [hV, hD]; exact run_enterLoop_outer _ _ _ _ _
  · simp only [resolve, hg]; simp [go_sem]
  · simp [invoke, go_sem, eg]
  refine (callsIn_wide.2 (hseq (D + 1)
    (fun k W => I k W ∧ W.heap[D + 1]? = some (.loop (rec' .ready none)) ∧ W.heap[D]? = some (.deferred (some [])))
    (fun W => ∃ c, Ix c W ∧ W.heap[D + 1]? = some (.loop (rec' .done (some c))) ∧ W.heap[D]? = some (.deferred (some [])))
    V vb (fun s A C row hs hg' hr => ⟨hI s A C row hs.1 hg' (wide hr), keep hg' hr _ _ (by omega) hs.2.1, keep hg' hr _ _ (by omega) hs.2.2⟩)
    (fun s A C row hs hg' hr => by
      obtain ⟨c, hc, hl, hk⟩ := hs
      exact ⟨c, hIx c s A C row hc hg' (wide hr), keep hg' hr _ _ (by omega) hl, keep hg' hr _ _ (by omega) hk⟩)
    ?_ ⟨vI, vl, vd⟩)).mono ?_
  · -- one round
    rintro k x W hx ⟨hi, hl, hk⟩
    have hy := run_yield (P := P) (args := x) hl (hps k x hx)
    refine ⟨fn, _, assign, body, hy, roundIn_of_wpIn trivial (hassign _ k x W _ hx hi ?_)⟩
    intro a' Wa hra hia haa
    have hl1 := hra.other _ _ (by omega) hl rfl
    have hk1 := hra.other _ _ (by omega) hk rfl
    have hlt : D + 1 < Wa.heap.size := (Array.getElem?_eq_some_iff.1 hl1).1
    refine ⟨_, run_beginRound hl1 rfl, ?_⟩
    have r1 : RF T (D + 2) W (Wa.putObj (D + 1) (.loop { rec' .ready none with state := .busy })) := (hra.mono (by omega)).put hl1 rfl (by omega)
    have hl2 : (Wa.putObj (D + 1) (.loop { rec' .ready none with state := .busy })).heap[D + 1]? = some (.loop { rec' .ready none with state := .busy }) := World.putObj_heap_same hlt
    have hk2 : (Wa.putObj (D + 1) (.loop { rec' .ready none with state := .busy })).heap[D]? = some (.deferred (some [])) := (World.putObj_heap_other (by omega)).trans hk1
    refine wpIn_mono (hbody _ k x a' _ hx (hI.putObj _ hia (by omega) hl1 rfl) ((hAx x a').putObj (s := ()) _ haa (by omega) hl1 rfl)) ?_
    generalize (Wa.putObj (D + 1) (.loop { rec' .ready none with state := .busy })) = Wb at r1 hl2 hk2 ⊢
    have fin : ∀ (jump : Option Code) (W3 : World), RF T w.heap.size Wb W3 → ∃ W4,
        (Instr.endRound (D + 1) jump).run P W3 = .ok (.bool jump.isNone) W4 ∧ W3.heap[D + 1]? = some (.loop { rec' .ready none with state := .busy }) ∧ W4 = W3.putObj (D + 1) (.loop (rec' (if jump.isNone then .ready else .done) jump)) ∧
        W4.heap[D + 1]? = some (.loop (rec' (if jump.isNone then .ready else .done) jump)) ∧ W4.heap[D]? = some (.deferred (some [])) ∧ RF T V.heap.size W W4 := fun jump W3 hr3 => by
      have hl3 := hr3.other _ _ (by omega) hl2 rfl
      have hk3 := hr3.other _ _ (by omega) hk2 rfl
      refine ⟨_, run_endRound jump hl3, hl3, rfl, World.putObj_heap_same (Array.getElem?_eq_some_iff.1 hl3).1, (World.putObj_heap_other (by omega)).trans hk3, ?_⟩
      rw [hVs]
      exact (r1.trans (hr3.mono (by omega))).put hl3 rfl (by omega)
    rintro e a3 W3 hp
    cases e with
    | normal =>
      obtain ⟨W4, h1, h2, rfl, h4, h5, h6⟩ := fin none W3 hp.1
      exact ⟨_, _, h1, h6, .inl ⟨rfl, hI.putObj _ hp.2 (by omega) h2 rfl, h4, h5⟩⟩
    | ret =>
      obtain ⟨W4, h1, h2, rfl, h4, h5, h6⟩ := fin (some .ret) W3 hp.1
      exact ⟨_, _, h1, h6, .inr ⟨rfl, .ret, (hIx _).putObj (s := ()) _ hp.2 (by omega) h2 rfl, h4, h5⟩⟩
    | exit id =>
      obtain ⟨W4, h1, h2, rfl, h4, h5, h6⟩ := fin (some (.exit id)) W3 hp.1
      exact ⟨_, _, h1, h6, .inr ⟨rfl, .exit id, (hIx _).putObj (s := ()) _ hp.2 (by omega) h2 rfl, h4, h5⟩⟩
    | goto t =>
      obtain ⟨W4, h1, h2, rfl, h4, h5, h6⟩ := fin (some (.goto t)) W3 hp.1
      exact ⟨_, _, h1, h6, .inr ⟨rfl, .goto t, (hIx _).putObj (s := ()) _ hp.2 (by omega) h2 rfl, h4, h5⟩⟩
    | panic ch => exact hp.elim
    | outgrown => exact hp.elim
  · rintro e W2 ⟨⟨v, rfl⟩, (⟨hi, hl, hk⟩ | ⟨c, hc, hl, hk⟩)⟩
    · exact ⟨none, _, run_endLoop hl (by simp [rec']), hdone D _ (by omega) (hI.putObj _ hi (by omega) hl rfl) ((World.putObj_heap_other (by omega)).trans hk)⟩
    · exact ⟨some c, _, run_endLoop hl (by simp [rec']), hstop D c _ (by omega) ((hIx c).putObj (s := ()) _ hc (by omega) hl rfl) ((World.putObj_heap_other (by omega)).trans hk)⟩

#print axioms range_seq
end Go
/- Small functions of package layout: known, may, within, span; the iterator spans: it tells the lines of a matrix, from which cell to which one. Conditions: of spans, a layout of 1 to 7 and 1 to 400 rows. -/
namespace Go.Proofs
open Go.RowKit Go.Shelf Go.Layout
attribute [local go_sem] Oper.semAt_some

def layKnownB (k : Int) : Bool := decide (1 ≤ k) && decide (k ≤ 7)
theorem mayB_known (k n : Int) : mayB k n = (layKnownB k && (decide (1 ≤ n) && decide (n ≤ 400))) := rfl
set_option maxRecDepth 100000 in
theorem Tryz.lknown_calls (k : Int) (w : World) :
    Calls Tryz.prog 42 #[.int .i64 k] w fun e w' => e = .returned (.bool (layKnownB k)) ∧ w' = w := by
  by_cases h1 : 1 ≤ k
  · by_cases h2 : k ≤ 7
    · go_enter Tryz.func42, Tryz.ntmps42
      go_wp2
      go_ret
      exact ⟨lret_is (by simp [layKnownB]; omega), rfl⟩
    · go_enter Tryz.func42, Tryz.ntmps42
      go_wp2
      go_ret
      exact ⟨lret_is (by simp [layKnownB]; omega), rfl⟩
  · go_enter Tryz.func42, Tryz.ntmps42
    go_wp2
    go_ret
    exact ⟨lret_is (by simp [layKnownB]; omega), rfl⟩
def withinB (i n : Int) : Bool := decide (0 ≤ i) && decide (i < n)
theorem two_is {a b c d : Int} (h : a = c) (g : b = d) : Ending.returned (.tuple #[.int .i64 a, .int .i64 b]) = .returned (.tuple #[.int .i64 c, .int .i64 d]) := by rw [h, g]

def layLineV (k n a : Nat) : Array Value := #[.int .i64 (beg k a : Int), .int .i64 (fin k n a : Int)]
def layLinesV (k n : Nat) : List (Array Value) := (List.range n).map (layLineV k n)
theorem layLinesV_length (k n : Nat) : (layLinesV k n).length = n := by simp [layLinesV]
theorem layLinesV_get {k n a : Nat} {x : Array Value} (h : (layLinesV k n)[a]? = some x) : x = #[.int .i64 (beg k a : Int), .int .i64 (fin k n a : Int)] ∧ a < n := by
  simp only [layLinesV, List.getElem?_map, Option.map_eq_some_iff] at h
  obtain ⟨b, h1, rfl⟩ := h
  obtain ⟨h2, h3⟩ := List.getElem?_eq_some_iff.1 h1
  simp at h2 h3
  subst h3
  exact ⟨rfl, h2⟩
theorem layLinesV_at {k n a : Nat} (h : a < n) : (layLinesV k n)[a]? = some (layLineV k n a) := by simp [layLinesV, h]


end Go.Proofs
/- layout.Keyword and layout.Of of this program. Conditions: the array of keywords holds what the card lays. -/
namespace Go.Layout
/-- The texts of the array of keywords. -/
def lkws : List (List UInt8) := [[], [70, 85, 76, 76, 95, 77, 65, 84, 82, 73, 88], [85, 80, 80, 69, 82, 95, 82, 79, 87], [76, 79, 87, 69, 82, 95, 82, 79, 87], [85, 80, 80, 69, 82, 95, 68, 73, 65, 71, 95, 82, 79, 87], [76, 79, 87, 69, 82, 95, 68, 73, 65, 71, 95, 82, 79, 87], [85, 80, 80, 69, 82, 95, 67, 79, 76], [76, 79, 87, 69, 82, 95, 67, 79, 76]]
end Go.Layout
namespace Go.Proofs
open Go.RowKit Go.Shelf Go.Layout Go.TextTab
attribute [local go_sem] Oper.semAt_some

/-- The array of keywords holds what the card lays. -/
def LayTab (w : World) : Prop := TextsAre Tryz.prog w "entrepot/layout.keywords" lkws
theorem LayTab.below {w w' : World} (h : LayTab w) (hb : Below w.heap.size w w') : LayTab w' := TextsAre.same h fun g hg => hb.block g hg
theorem lnamed : Tryz.prog.globalNamed "entrepot/layout.keywords" = some 1 := by kernel_rfl
structure LayCells (w : World) : Prop where
  c1 : w.cell? ⟨1, 1, none⟩ = some (.string ⟨#[70, 85, 76, 76, 95, 77, 65, 84, 82, 73, 88]⟩)
  c2 : w.cell? ⟨1, 2, none⟩ = some (.string ⟨#[85, 80, 80, 69, 82, 95, 82, 79, 87]⟩)
  c3 : w.cell? ⟨1, 3, none⟩ = some (.string ⟨#[76, 79, 87, 69, 82, 95, 82, 79, 87]⟩)
  c4 : w.cell? ⟨1, 4, none⟩ = some (.string ⟨#[85, 80, 80, 69, 82, 95, 68, 73, 65, 71, 95, 82, 79, 87]⟩)
  c5 : w.cell? ⟨1, 5, none⟩ = some (.string ⟨#[76, 79, 87, 69, 82, 95, 68, 73, 65, 71, 95, 82, 79, 87]⟩)
  c6 : w.cell? ⟨1, 6, none⟩ = some (.string ⟨#[85, 80, 80, 69, 82, 95, 67, 79, 76]⟩)
  c7 : w.cell? ⟨1, 7, none⟩ = some (.string ⟨#[76, 79, 87, 69, 82, 95, 67, 79, 76]⟩)
theorem LayTab.cells {w : World} (h : LayTab w) : LayCells w :=
  ⟨TextsAre.cell h lnamed rfl, TextsAre.cell h lnamed rfl, TextsAre.cell h lnamed rfl, TextsAre.cell h lnamed rfl, TextsAre.cell h lnamed rfl, TextsAre.cell h lnamed rfl, TextsAre.cell h lnamed rfl⟩

theorem Tryz.LKeyword_calls (k : Int) (w : World) (hT : LayTab w) :
    Calls Tryz.prog 22 #[.int .i64 k] w fun e w' => e = .returned (.string (lkwS k)) ∧ w' = w := by
  obtain ⟨c1, c2, c3, c4, c5, c6, c7⟩ := hT.cells
  clear hT
  have K := fun (w : World) => Tryz.lknown_calls k w
  by_cases hk : 1 ≤ k ∧ k ≤ 7
  · rw [show layKnownB k = true by simp [layKnownB]; omega] at K
    rcases (show k = 1 ∨ k = 2 ∨ k = 3 ∨ k = 4 ∨ k = 5 ∨ k = 6 ∨ k = 7 by omega) with rfl | rfl | rfl | rfl | rfl | rfl | rfl
    all_goals
      go_enter Tryz.func22, Tryz.ntmps22
      go_wp2_with (go_at_call 42; (with_reducible refine (K _).mono ?_); rintro e w1 ⟨rfl, hw1⟩; obtain rfl : w = w1 := hw1.symm)
      go_ret
      exact ⟨rfl, rfl⟩
  · rw [lkwS_none hk]
    rw [show layKnownB k = false by simp [layKnownB]; omega] at K
    go_enter Tryz.func22, Tryz.ntmps22
    go_wp2_with (go_at_call 42; (with_reducible refine (K _).mono ?_); rintro e w1 ⟨rfl, hw1⟩; obtain rfl : w = w1 := hw1.symm)
    go_ret
    exact ⟨rfl, rfl⟩

set_option maxRecDepth 100000 in
set_option maxHeartbeats 1000000 in
theorem Tryz.LOf_calls (s : ByteArray) (w : World) (hT : LayTab w) :
    Calls Tryz.prog 73 #[.string s] w fun e w' => e = .returned (.int .i64 (lofR s)) ∧ w' = w := by
  obtain ⟨c1, c2, c3, c4, c5, c6, c7⟩ := hT.cells
  clear hT
  go_enter Tryz.func73, Tryz.ntmps73
  go_wp2
  go_loop [3] (fun i => ∃ j : Nat, 1 ≤ j ∧ j ≤ 8 ∧ i = .int .i64 (j : Int) ∧ Hid (lofR s = lofFrom s j (8 - j))) (fun i => 8 - (intOf i).toNat)
  case atStart => exact ⟨1, by omega, by omega, rfl, rfl⟩
  case round =>
    obtain ⟨j, hj1, hj, rfl, hH⟩ := hrel
    by_cases hlt : j < 8
    · obtain ⟨m, hm⟩ : ∃ m, 8 - j = m + 1 := ⟨7 - j, by omega⟩
      have hH2 := hH.out
      rw [hm] at hH2
      simp only [lofFrom] at hH2
      clear hH
      have hm2 : 8 - (j + 1) = m := by omega
      rcases (show j = 1 ∨ j = 2 ∨ j = 3 ∨ j = 4 ∨ j = 5 ∨ j = 6 ∨ j = 7 by omega) with rfl | rfl | rfl | rfl | rfl | rfl | rfl
      all_goals
        simp only [lkAt, lk1, lk2, lk3, lk4, lk5, lk6, lk7] at hH2
        split at hH2
        · rename_i he
          subst he
          have HH := Lib.hid hH2
          clear hH2 hm hm2
          go_wp2
          go_ret
          exact ⟨lret_num HH.out.symm, rfl⟩
        · rename_i he
          have hne := ltext_beq he
          have HH := Lib.hid hH2
          have Hm := Lib.hid hm2
          clear hH2 hm hm2
          go_wp2
          go_round
          case rel =>
            have e := HH.out
            rw [← Hm.out] at e
            first | exact ⟨2, by omega, by omega, by go_num, Lib.hid e⟩ | exact ⟨3, by omega, by omega, by go_num, Lib.hid e⟩ | exact ⟨4, by omega, by omega, by go_num, Lib.hid e⟩ | exact ⟨5, by omega, by omega, by go_num, Lib.hid e⟩ | exact ⟨6, by omega, by omega, by go_num, Lib.hid e⟩ | exact ⟨7, by omega, by omega, by go_num, Lib.hid e⟩ | exact ⟨8, by omega, by omega, by go_num, Lib.hid e⟩
          case measure => simp [intOf]
    · obtain rfl : j = 8 := by omega
      go_wp2
      go_ret
      exact ⟨lret_num hH.out.symm, rfl⟩
#print axioms Tryz.LOf_calls
#print axioms Tryz.LKeyword_calls
end Go.Proofs
/- Plain facts on the signs of a text, on where a class of them is first met, and on words; no program. -/
namespace Go.Wds

theorem get_of (s : ByteArray) (k : Nat) (h : k < s.size) : s.get! k = s[k]'h := by
  have := get_at s k h; simpa using this
theorem list_get (s : ByteArray) (k : Nat) (h : k < s.size) : s.data.toList[k]? = some (s[k]'h) := by
  have h' : k < s.data.toList.length := by simpa using h
  rw [List.getElem?_eq_getElem h']; rfl

theorem cont_high (b : UInt8) (h : (b.toNat / 64 == 2) = true) : 128 ≤ b.toNat := by
  have h' : b.toNat / 64 = 2 := by simpa using h
  omega

/-- A sign that is no single low byte has high bytes alone. -/
theorem decode_wide (s : ByteArray) (pos : Nat) (h : pos < s.size) (ha : 128 ≤ (s[pos]'h).toNat) :
    128 ≤ (Utf8.decode s pos).1 ∧ 1 ≤ (Utf8.decode s pos).2 ∧ pos + (Utf8.decode s pos).2 ≤ s.size ∧ ∀ j, pos ≤ j → j < pos + (Utf8.decode s pos).2 → 128 ≤ (s.get! j).toNat := by
  have hb' : 128 ≤ (s.get! (pos + 0)).toNat := by rw [get_at s pos h]; exact ha
  have hh := decode_high s pos h (by omega)
  refine ⟨hh.1, hh.2, ?_⟩
  have hn : ¬ (s.get! (pos + 0)).toNat < 128 := by omega
  clear hh ha
  simp only [Utf8.decode]
  rw [if_neg (by simpa using hn)]
  have one : pos + 1 ≤ s.size ∧ ∀ j, pos ≤ j → j < pos + 1 → 128 ≤ (s.get! j).toNat := ⟨h, fun j h1 h2 => by
    have : j = pos := by omega
    subst this; simpa using hb'⟩
  have two : ∀ m, (m ≤ 3) → (∀ k, 1 ≤ k → k ≤ m → (decide (pos + k < s.size) && (s.get! (pos + k)).toNat / 64 == 2) = true) → pos + (m + 1) ≤ s.size ∧ ∀ j, pos ≤ j → j < pos + (m + 1) → 128 ≤ (s.get! j).toNat := by
    intro m hm hk
    refine ⟨?_, fun j h1 h2 => ?_⟩
    · rcases Nat.eq_zero_or_pos m with rfl | hp
      · exact h
      · have := hk m hp (Nat.le_refl _)
        simp at this; omega
    · by_cases e : j = pos
      · subst e; simpa using hb'
      · have := hk (j - pos) (by omega) (by omega)
        rw [Bool.and_eq_true] at this
        have := cont_high _ this.2
        rwa [show pos + (j - pos) = j from by omega] at this
  split
  · rename_i hc
    simp only [Bool.and_eq_true] at hc
    split
    · refine two 1 (by omega) fun k h1 h2 => ?_
      obtain rfl : k = 1 := by omega
      simpa using hc.2
    · exact one
  · split
    · rename_i hc
      simp only [Bool.and_eq_true] at hc
      split
      · refine two 2 (by omega) fun k h1 h2 => ?_
        rcases (by omega : k = 1 ∨ k = 2) with rfl | rfl
        · simpa using hc.1.2
        · simpa using hc.2
      · exact one
    · split
      · rename_i hc
        simp only [Bool.and_eq_true] at hc
        split
        · refine two 3 (by omega) fun k h1 h2 => ?_
          rcases (by omega : k = 1 ∨ k = 2 ∨ k = 3) with rfl | rfl | rfl
          · simpa using hc.1.1.2
          · simpa using hc.1.2
          · simpa using hc.2
        · exact one
      · exact one

/-- A class of signs that takes all of the high ones, or none. -/
def Flat (p : Nat → Bool) : Prop := ∀ r, 128 ≤ r → p r = p 128
/-- A class, asked of a byte. -/
def ofB (p : Nat → Bool) (c : UInt8) : Bool := p c.toNat

theorem class_step {p : Nat → Bool} (hp : Flat p) (s : ByteArray) (pos : Nat) (h : pos < s.size) :
    p (Utf8.decode s pos).1 = ofB p (s[pos]'h) ∧ 1 ≤ (Utf8.decode s pos).2 ∧ pos + (Utf8.decode s pos).2 ≤ s.size ∧
    (p (Utf8.decode s pos).1 = false → ∀ j, pos ≤ j → j < pos + (Utf8.decode s pos).2 → ofB p (s.get! j) = false) := by
  by_cases ha : (s[pos]'h).toNat < 128
  · rw [decode_ascii s pos h ha]
    refine ⟨rfl, Nat.le_refl _, h, fun hf j h1 h2 => ?_⟩
    have : j = pos := by simp at h2; omega
    subst this
    rw [get_of s j h]; exact hf
  · obtain ⟨h1, h2, h3, h4⟩ := decode_wide s pos h (by omega)
    have e1 : p (Utf8.decode s pos).1 = p 128 := hp _ h1
    refine ⟨?_, h2, h3, fun hf j h5 h6 => ?_⟩
    · rw [e1]; exact (hp _ (by omega)).symm
    · rw [e1] at hf
      unfold ofB
      rw [hp _ (h4 j h5 h6), hf]

/-- The place of the first byte of l of a class, of those from a up to b; b, if there is none. -/
def seekFrom (q : UInt8 → Bool) (l : List UInt8) (a : Nat) : Nat → Nat
  | 0 => a
  | n + 1 => if (l[a]?.map q).getD false then a else seekFrom q l (a + 1) n
def seekL (q : UInt8 → Bool) (l : List UInt8) (a b : Nat) : Nat := seekFrom q l a (b - a)

theorem seekFrom_le (q : UInt8 → Bool) (l : List UInt8) : ∀ n a, a ≤ seekFrom q l a n ∧ seekFrom q l a n ≤ a + n
  | 0, a => ⟨Nat.le_refl _, Nat.le_refl _⟩
  | n + 1, a => by
    unfold seekFrom
    split
    · omega
    · have := seekFrom_le q l n (a + 1); omega
theorem seek_ge (q : UInt8 → Bool) (l : List UInt8) (a b : Nat) : a ≤ seekL q l a b := (seekFrom_le q l _ a).1
theorem seek_le {q : UInt8 → Bool} {l : List UInt8} {a b : Nat} (h : a ≤ b) : seekL q l a b ≤ b := by
  have := (seekFrom_le q l (b - a) a).2
  unfold seekL; omega
/-- What is sought is at r, if none of those ahead is of the class, and it is, or is the end. -/
theorem seekFrom_eq {q : UInt8 → Bool} {l : List UInt8} {r : Nat} : ∀ {n a : Nat}, a ≤ r → r ≤ a + n → (∀ j c, a ≤ j → j < r → l[j]? = some c → q c = false) → (r < a + n → ∃ c, l[r]? = some c ∧ q c = true) → seekFrom q l a n = r
  | 0, a, h1, h2, _, _ => by unfold seekFrom; omega
  | n + 1, a, h1, h2, h3, h4 => by
    unfold seekFrom
    by_cases e : a = r
    · subst e
      obtain ⟨c, hc, hq⟩ := h4 (by omega)
      rw [hc]; simp [hq]
    · have hf : (l[a]?.map q).getD false = false := by
        cases hc : l[a]? with
        | none => rfl
        | some c => exact h3 a c (Nat.le_refl _) (by omega) hc
      rw [hf]
      exact seekFrom_eq (by omega) (by omega) (fun j c h5 h6 => h3 j c (by omega) h6) (fun h => h4 (by omega))
theorem seek_eq {q : UInt8 → Bool} {l : List UInt8} {a b r : Nat} (h1 : a ≤ r) (h2 : r ≤ b) (h3 : ∀ j c, a ≤ j → j < r → l[j]? = some c → q c = false) (h4 : r < b → ∃ c, l[r]? = some c ∧ q c = true) : seekL q l a b = r :=
  seekFrom_eq h1 (by omega) h3 (fun h => h4 (by omega))
theorem seekFrom_none {q : UInt8 → Bool} {l : List UInt8} : ∀ {n a : Nat}, ∀ j c, a ≤ j → j < seekFrom q l a n → l[j]? = some c → q c = false
  | 0, a, j, c, h1, h2, _ => by unfold seekFrom at h2; omega
  | n + 1, a, j, c, h1, h2, h3 => by
    unfold seekFrom at h2
    split at h2
    · omega
    · rename_i hf
      by_cases e : j = a
      · subst e; rw [h3] at hf; simpa using hf
      · exact seekFrom_none j c (by omega) h2 h3
theorem seek_none {q : UInt8 → Bool} {l : List UInt8} {a b j : Nat} {c : UInt8} (h1 : a ≤ j) (h2 : j < seekL q l a b) (h3 : l[j]? = some c) : q c = false := seekFrom_none j c h1 h2 h3
theorem seekFrom_at {q : UInt8 → Bool} {l : List UInt8} : ∀ {n a : Nat}, seekFrom q l a n < a + n → ∃ c, l[seekFrom q l a n]? = some c ∧ q c = true
  | 0, a, h => by unfold seekFrom at h; omega
  | n + 1, a, h => by
    unfold seekFrom at h ⊢
    split at h
    · rename_i hf
      rw [if_pos hf]
      cases hc : l[a]? with
      | none => rw [hc] at hf; simp at hf
      | some c => rw [hc] at hf; exact ⟨c, rfl, by simpa using hf⟩
    · rename_i hf
      rw [if_neg hf]
      exact seekFrom_at (by omega)
theorem seek_at {q : UInt8 → Bool} {l : List UInt8} {a b : Nat} (hab : a ≤ b) (h : seekL q l a b < b) : ∃ c, l[seekL q l a b]? = some c ∧ q c = true :=
  seekFrom_at (by unfold seekL at h; omega)

/-- A blank. -/
def blk (c : UInt8) : Bool := c == 32 || c == 9
/-- No blank. -/
def ink (c : UInt8) : Bool := !(c == 32 || c == 9)

/-- The words of the n bytes of l from a on, told byte by byte. -/
def grow (l : List UInt8) (a i : Nat) (out : List (Nat × Nat)) : List (Nat × Nat) :=
  if (l[i]?.map blk).getD true then out
  else if a < i ∧ (l[i - 1]?.map blk).getD true = false then out.dropLast ++ [((out.getLast?.map Prod.fst).getD 0, i + 1)]
  else out ++ [(i, i + 1)]
def wds (l : List UInt8) (a : Nat) : Nat → List (Nat × Nat)
  | 0 => []
  | n + 1 => grow l a (a + n) (wds l a n)
def wordsL (l : List UInt8) (a b : Nat) : List (Nat × Nat) := wds l a (b - a)

theorem wds_blank {l : List UInt8} {a n c : Nat} (h : ∀ j x, a + n ≤ j → j < a + n + c → l[j]? = some x → blk x = true) : wds l a (n + c) = wds l a n := by
  induction c with
  | zero => rfl
  | succ c ih =>
    show grow l a (a + (n + c)) (wds l a (n + c)) = _
    rw [ih (fun j x h1 h2 => h j x h1 (by omega))]
    unfold grow
    rw [if_pos]
    cases hc : l[a + (n + c)]? with
    | none => rfl
    | some x => exact h _ x (by omega) (by omega) hc
theorem wds_word {l : List UInt8} {a n c : Nat} (hl : a + n + (c + 1) ≤ l.length) (h0 : n = 0 ∨ ∀ x, l[a + n - 1]? = some x → blk x = true) (h : ∀ j x, a + n ≤ j → j < a + n + (c + 1) → l[j]? = some x → blk x = false) : wds l a (n + (c + 1)) = wds l a n ++ [(a + n, a + n + (c + 1))] := by
  induction c with
  | zero =>
    show grow l a (a + n) (wds l a n) = _
    unfold grow
    have hc : l[a + n]? = some l[a + n] := List.getElem?_eq_getElem (by omega)
    have hb := h _ _ (Nat.le_refl _) (by omega) hc
    rw [if_neg (by rw [hc]; simp [hb]), if_neg]
    · rcases h0 with h0 | h0
      · subst h0; omega
      · rintro ⟨h1, h2⟩
        have hd : l[a + n - 1]? = some l[a + n - 1] := List.getElem?_eq_getElem (by omega)
        rw [hd] at h2
        have := h0 _ hd
        simp [this] at h2
  | succ c ih =>
    have ih := ih (by omega) (fun j x h1 h2 => h j x h1 (by omega))
    show grow l a (a + (n + (c + 1))) (wds l a (n + (c + 1))) = _
    rw [ih]
    unfold grow
    have hc : l[a + (n + (c + 1))]? = some l[a + (n + (c + 1))] := List.getElem?_eq_getElem (by omega)
    have hb := h _ _ (by omega) (by omega) hc
    have hd : l[a + (n + (c + 1)) - 1]? = some l[a + (n + (c + 1)) - 1] := List.getElem?_eq_getElem (by omega)
    have hb2 := h _ _ (by omega) (by omega) hd
    rw [if_neg (by rw [hc]; simp [hb]), if_pos ⟨by omega, by rw [hd]; simp [hb2]⟩]
    simp
    omega

theorem words_blank {l : List UInt8} {a b c : Nat} (hab : a ≤ b) (hbc : b ≤ c) (h : ∀ j x, b ≤ j → j < c → l[j]? = some x → blk x = true) : wordsL l a c = wordsL l a b := by
  have := wds_blank (l := l) (a := a) (n := b - a) (c := c - b) (fun j x h1 h2 => h j x (by omega) (by omega))
  rw [show b - a + (c - b) = c - a from by omega] at this
  exact this
theorem words_word {l : List UInt8} {a b c : Nat} (hab : a ≤ b) (hbc : b < c) (hl : c ≤ l.length) (h0 : b = a ∨ ∀ x, l[b - 1]? = some x → blk x = true) (h : ∀ j x, b ≤ j → j < c → l[j]? = some x → blk x = false) : wordsL l a c = wordsL l a b ++ [(b, c)] := by
  have := wds_word (l := l) (a := a) (n := b - a) (c := c - b - 1) (by omega) (by rcases h0 with h0 | h0; exact .inl (by omega); exact .inr (by rw [show a + (b - a) = b from by omega]; exact h0)) (fun j x h1 h2 => h j x (by omega) (by omega))
  rw [show b - a + (c - b - 1 + 1) = c - a from by omega, show a + (b - a) = b from by omega, show b + (c - b - 1 + 1) = c from by omega] at this
  exact this
theorem words_nil (l : List UInt8) (a : Nat) : wordsL l a a = [] := by unfold wordsL; rw [Nat.sub_self]; rfl
theorem words_len (l : List UInt8) (a b : Nat) : (wordsL l a b).length ≤ b - a := by
  unfold wordsL
  generalize b - a = n
  induction n with
  | zero => exact Nat.le_refl _
  | succ n ih =>
    show (grow l a (a + n) (wds l a n)).length ≤ _
    unfold grow
    split
    · omega
    · split
      · simp; omega
      · simp; omega
end Go.Wds
/- strings.IndexRune and strings.ContainsRune in this program, at a text of low bytes. Conditions: the text's bytes are all below 128; the sign is one that a decoder can tell. -/
namespace Go.Wds
theorem indexByte_ge (l : List UInt8) (c : UInt8) : -1 ≤ Lib.indexByte l c := by
  induction l with
  | nil => exact Int.le_refl _
  | cons b l ih =>
    unfold Lib.indexByte
    split
    · omega
    · split
      · omega
      · omega
theorem indexByte_mem (l : List UInt8) (c : UInt8) : decide (0 ≤ Lib.indexByte l c) = l.any (fun x => x == c) := by
  induction l with
  | nil => rfl
  | cons b l ih =>
    unfold Lib.indexByte
    have h1 := indexByte_ge l c
    rw [List.any_cons, ← ih]
    cases hb : b == c with
    | true => simp
    | false =>
      rw [Bool.false_or]
      by_cases h2 : Lib.indexByte l c = -1
      · simp [h2]
      · have h3 : (Lib.indexByte l c == -1) = false := by rw [beq_eq_false_iff_ne]; exact h2
        rw [if_neg (by simp), if_neg (by rw [h3]; simp), decide_eq_decide]; omega
theorem indexByte_none {l : List UInt8} {c : UInt8} (h : ∀ x ∈ l, x ≠ c) : Lib.indexByte l c = -1 := by
  have h1 := indexByte_mem l c
  have h2 := indexByte_ge l c
  have h3 : l.any (fun x => x == c) = false := by
    rw [List.any_eq_false]
    intro x hx
    simpa using h x hx
  rw [h3, decide_eq_false_iff_not] at h1
  omega
/-- A text of low bytes. -/
def Low (s : ByteArray) : Prop := ∀ x ∈ s.data.toList, x.toNat < 128
theorem Low.at {s : ByteArray} (h : Low s) (k : Nat) (hk : k < s.size) : (s[k]'hk).toNat < 128 :=
  h _ (List.mem_of_getElem? (list_get s k hk))
/-- Whether a text has a sign. -/
def has (s : ByteArray) (r : Nat) : Bool := s.data.toList.any (fun c => c.toNat == r)
theorem has_high {s : ByteArray} (h : Low s) {r : Nat} (hr : 128 ≤ r) : has s r = false := by
  unfold has
  rw [List.any_eq_false]
  intro x hx
  have := h x hx
  simp; omega
theorem has_low (s : ByteArray) {r : Nat} (hr : r < 128) : decide (0 ≤ Lib.indexByte s.data.toList (r : Int).toNat.toUInt8) = has s r := by
  rw [indexByte_mem]
  unfold has
  congr 1
  funext x
  have h1 : ((r : Int).toNat.toUInt8).toNat = r := by simp; omega
  rw [Bool.eq_iff_iff, beq_iff_eq, beq_iff_eq, ← UInt8.toNat_inj, h1]
end Go.Wds
namespace Go.Proofs
open Go.RowKit Go.Shelf Go.Wds

set_option maxRecDepth 100000 in
set_option maxHeartbeats 2000000 in
theorem Tryz.IndexRune_high (s : ByteArray) (r : Nat) (w : World) (hlow : Low s) (h0 : 128 ≤ r) (h1 : r ≤ 1114111) :
    Calls Tryz.prog 80 #[.string s, .int .i32 (r : Int)] w fun e w' => e = .returned (.int .i64 (-1)) ∧ Below w.heap.size w w' := by
  have d1 : decide ((0 : Int) ≤ (r : Int)) = true := decide_eq_true (by omega)
  have d2 : decide ((r : Int) < 128) = false := decide_eq_false (by omega)
  by_cases he : r = 65533
  · subst he
    have hn := fun (wr : World) (pos : Nat) (ty : TypeId) hk h => Lib.run_next_any_at (P := Tryz.prog) wr w.heap.size s pos ty hk h
    have hend := fun (wr : World) (pos : Nat) (ty : TypeId) hk h => Lib.run_next_end_at (P := Tryz.prog) wr w.heap.size s pos ty hk h
    clear d1 d2
    go_enter Tryz.func80, Tryz.ntmps80
    go_wp2
    go_loopw [] (fun wr => ∃ pos : Nat, wr.heap[w.heap.size]? = some (.stringIter s pos) ∧ pos ≤ s.size ∧ Below w.heap.size w wr) (fun wr => s.size - wr.iterPos w.heap.size)
    case atStart => exact ⟨0, World.iter_heap w s 0, Nat.zero_le _, (Below.refl _ w).alloc (Nat.le_refl _) _⟩
    case round =>
      obtain ⟨pos, hit, hpos, hB⟩ := hrel
      by_cases hlt : pos < s.size
      · have hn' := fun ty => hn wr pos ty hit hlt
        have hl := hlow.at pos hlt
        rw [decode_ascii s pos hlt hl] at hn'
        have hne : (((s[pos]'hlt).toNat : Int) == 65533) = false := by rw [beq_eq_false_iff_ne]; omega
        have hit2 := Lib.iterAt_heap wr w.heap.size s pos (pos + 1) hit
        have hB2 := Lib.below_iterAt hB (k := w.heap.size) (Nat.le_refl _) s (pos + 1)
        clear hn hend hl hlow
        go_wp2
        go_roundw
        case rel => exact ⟨pos + 1, hit2, by omega, hB2⟩
        case measure => simp [World.iterPos, hit, hit2]; omega
      · have he' := fun ty => hend wr pos ty hit hlt
        clear hn hend hlow
        go_wp2
        go_ret
        exact ⟨rfl, hB⟩
  · have d3 : ((r : Int) == 65533) = false := by rw [beq_eq_false_iff_ne]; omega
    cases hv : Lib.validRune (r : Int) with
    | false =>
      have hc := Lib.hid (Tryz.utf8_ValidRune (r : Int))
      rw [hv] at hc
      clear he
      go_enter Tryz.func80, Tryz.ntmps80
      go_wp2_with (go_at_call 93; (with_reducible refine (hc.out _).mono ?_); rintro e w' ⟨rfl, rfl⟩)
      go_ret
      exact ⟨rfl, Below.refl _ _⟩
    | true =>
      have hc := Lib.hid (Tryz.utf8_ValidRune (r : Int))
      rw [hv] at hc
      have hval : Utf8.valid (r : Int) = true := by
        simp only [Lib.validRune, Utf8.valid] at hv ⊢
        simp at hv ⊢
        omega
      obtain ⟨e1, e2, e3⟩ := encode_facts (r : Int) hval (by omega)
      obtain ⟨E, hE⟩ : ∃ E, Utf8.encode (r : Int) = E := ⟨_, rfl⟩
      rw [hE] at e1 e2 e3
      have E3 := Lib.hid (e3 (by omega))
      obtain ⟨n, hn⟩ : ∃ n, E.size = n + 1 := ⟨E.size - 1, by omega⟩
      have HN := Lib.hid hn
      have hb0 : ((E.size : Int) - 1) = (n : Int) := by omega
      have hn3 : n ≤ 3 := by omega
      clear he hv hval e3 hn
      go_enter Tryz.func80, Tryz.ntmps80
      go_wp2_with (go_at_call 93; (with_reducible refine (hc.out _).mono ?_); rintro e w' ⟨rfl, rfl⟩)
      clear hc d1 d2 d3
      go_step3
      go_wp2
      clear hE
      clear hb0
      go_loopw [9] (fun i wr => i = .int .i64 (n : Int) ∧ wr = w') (fun _ _ => 0)
      case atStart => exact ⟨rfl, rfl⟩
      case round =>
        obtain ⟨rfl, rfl⟩ := hrel
        have hkE : n < E.size := by have := HN.out; omega
        by_cases hk : n < s.size
        · have h4 : 128 ≤ (E[n]'hkE).toNat := by
            have h := E3.out
            simpa only [HN.out, Nat.add_sub_cancel] using h
          have hne : (((s[n]'hk).toNat : Int) != ((E[n]'hkE).toNat : Int)) = true := by
            rw [bne_iff_ne]
            have h3 := hlow.at _ hk
            omega
          have hi : ∀ W : World, Calls Tryz.prog 92 #[.string (s.extract (n + 1) s.size), .int .u8 ((E[n]'hkE).toNat : Int)] W fun e w' => e = .returned (.int .i64 (-1)) ∧ w' = W := by
            intro W
            have h := Tryz.strings_IndexByte (s.extract (n + 1) s.size) ((E[n]'hkE).toNat : Int) W
            rw [indexByte_none] at h
            · exact h
            · intro x hx e
              have h5 : x ∈ s.data.toList := by
                simp only [ByteArray.data_extract, Array.toList_extract, List.extract_eq_take_drop] at hx
                exact List.mem_of_mem_drop (List.mem_of_mem_take hx)
              have h6 := hlow x h5
              subst e
              simp at h6
              omega
          have w1 : IntKind.i64.wrap ((n : Int) + 1) = (n : Int) + 1 := IntWalk.i64_in _ (by omega)
          have w2 : ((n : Int) + 1).toNat = n + 1 := by omega
          have hx1 : (n : Int) < (s.size : Int) := by omega
          have hx2 : (n : Int) < (E.size : Int) := by omega
          have hx3 : (n : Int) + 1 ≤ (s.size : Int) := by omega
          have hx4 : (0 : Int) ≤ (n : Int) + 1 := by omega
          have hx5 : n + 1 ≤ s.size := by omega
          have hi2 := Lib.hid hi
          clear hi E3 hlow h4
          go_wp2
          go_step3
          go_wp2
          go_quiet (fail)
          obtain ⟨V, hV⟩ : ∃ V, V = wr.drewN nq := ⟨_, rfl⟩
          rw [← hV]
          have hBV : Below wr.heap.size wr V := by rw [hV]; exact ⟨rfl, rfl, rfl, Nat.le_refl _, fun _ _ => rfl⟩
          clear hV
          go_wp2
          go_quiet ((go_at_call 92; exact Calls.quiet_of_same (hi2.out _)))
          go_wp2
          try rw [Exit.noGoto_ret]
          simp only [Exit.inBlock]
          go_wp2
          try rw [Exit.noGoto_ret]
          go_ret
          exact ⟨rfl, hBV.trans ⟨rfl, rfl, rfl, Nat.le_refl _, fun _ _ => rfl⟩⟩
        · clear E3 hlow
          go_wp2
          try rw [Exit.noGoto_ret]
          go_ret
          exact ⟨rfl, Below.refl _ _⟩

set_option maxRecDepth 100000 in
theorem Tryz.ContainsRune_calls (s : ByteArray) (r : Nat) (w : World) (hlow : Low s) (h1 : r ≤ 1114111) :
    Calls Tryz.prog 66 #[.string s, .int .i32 (r : Int)] w fun e w' => e = .returned (.bool (has s r)) ∧ Below w.heap.size w w' := by
  by_cases h : r < 128
  · refine (Tryz.strings_ContainsRune_ascii s (r : Int) w (by omega) (by omega)).mono ?_
    rintro e w' ⟨rfl, rfl⟩
    exact ⟨by rw [has_low s h], Below.refl _ _⟩
  · have hc := Lib.hid fun w => Tryz.IndexRune_high s r w hlow (by omega) h1
    have hf := Lib.hid (has_high hlow (show 128 ≤ r by omega))
    clear h h1 hlow
    go_enter Tryz.func66, Tryz.ntmps66
    go_wp2_with (go_at_call 80; (with_reducible refine (hc.out _).mono ?_); rintro e w1 ⟨rfl, hb⟩)
    go_ret
    rw [hf.out]
    exact ⟨rfl, hb⟩
#print axioms Tryz.IndexRune_high
#print axioms Tryz.ContainsRune_calls
end Go.Proofs
/- The classes of signs of this program: what the closures of words.oneOf, span, not and either answer. Conditions: signs that a decoder can tell; a list of low bytes. -/
namespace Go.Proofs
open Go.RowKit Go.Shelf Go.Wds

/-- The closure g with what it holds, lb, is the class p: in w and in whatever w grows into. -/
def Class (g : Nat) (lb : Array Value) (p : Nat → Bool) (w : World) : Prop :=
  ∀ (W : World) (x : Nat), x ≤ 1114111 → Below w.heap.size w W → Calls Tryz.prog g (#[.int .i32 (x : Int)] ++ lb) W fun e w' => e = .returned (.bool (p x)) ∧ Below W.heap.size W w'
theorem Class.later {g : Nat} {lb : Array Value} {p : Nat → Bool} {w W : World} (h : Class g lb p w) (hb : Below w.heap.size w W) : Class g lb p W :=
  fun W' x hx hb' => h W' x hx (hb.trans (hb'.mono hb.size))
/-- A value of a class, and what it is to call it. -/
def IsClass (v : Value) (p : Nat → Bool) (w : World) : Prop :=
  ∃ (g : Nat) (lb : Array Value), v = .func (.func g) #[] lb ∧ (∀ args w, (callFunc g args).run Tryz.prog w = .ok (.enter g args) w) ∧ Class g lb p w
theorem IsClass.later {v : Value} {p : Nat → Bool} {w W : World} (h : IsClass v p w) (hb : Below w.heap.size w W) : IsClass v p W := by
  obtain ⟨g, lb, h1, h2, h3⟩ := h
  exact ⟨g, lb, h1, h2, h3.later hb⟩

theorem Tryz.enters37 : ∀ args w, (callFunc 65 args).run Tryz.prog w = .ok (.enter 65 args) w := enters_of Tryz.func65 (by kernel_rfl) rfl
theorem Tryz.enters39 : ∀ args w, (callFunc 91 args).run Tryz.prog w = .ok (.enter 91 args) w := enters_of Tryz.func91 (by kernel_rfl) rfl
theorem Tryz.enters40 : ∀ args w, (callFunc 63 args).run Tryz.prog w = .ok (.enter 63 args) w := enters_of Tryz.func63 (by kernel_rfl) rfl
theorem Tryz.enters41 : ∀ args w, (callFunc 64 args).run Tryz.prog w = .ok (.enter 64 args) w := enters_of Tryz.func64 (by kernel_rfl) rfl

/-- The box of a closure: a cell of w that stands. -/
def Box (w : World) (b : Nat) (v : Value) : Prop := b < w.heap.size ∧ w.cell? ⟨b, 0, none⟩ = some v
theorem Box.later {w W : World} {b : Nat} {v : Value} (h : Box w b v) {n : Nat} (hb : Below n w W) (hn : b < n) : Box W b v :=
  ⟨Nat.lt_of_lt_of_le h.1 hb.size, (hb.cell (p := ⟨b, 0, none⟩) hn).trans h.2⟩
theorem Box.new (w : World) (v : Value) (t : TypeId) : Box (w.alloc (.cells #[v] t)) w.heap.size v := ⟨by simp, by simp⟩

theorem Tryz.class_oneOf (s : ByteArray) (b : Nat) (w : World) (hlow : Low s) (hb : Box w b (.string s)) : Class 65 #[.pointer (some ⟨b, 0, none⟩)] (has s) w := by
  intro W x hx hW
  have hc := Lib.hid fun w => Tryz.ContainsRune_calls s x w hlow hx
  have h0 := (hb.later hW hb.1).2
  clear hlow hW hb
  go_enter Tryz.func65, Tryz.ntmps65
  go_wp2_with (go_at_call 66; (with_reducible refine (hc.out _).mono ?_); rintro e w1 ⟨rfl, hb1⟩)
  go_ret
  exact ⟨rfl, hb1⟩

def between (a b : Nat) (r : Nat) : Bool := decide (a ≤ r) && decide (r ≤ b)
theorem Tryz.class_span (a c : Nat) (b b' : Nat) (w : World) (hb : Box w b (.int .i32 (a : Int))) (hb' : Box w b' (.int .i32 (c : Int))) : Class 64 #[.pointer (some ⟨b, 0, none⟩), .pointer (some ⟨b', 0, none⟩)] (between a c) w := by
  intro W x hx hW
  have h0 := (hb.later hW hb.1).2
  have h1 := (hb'.later hW hb'.1).2
  clear hW hb hb'
  unfold between
  by_cases h2 : a ≤ x
  · have d1 : decide (a ≤ x) = true := decide_eq_true h2
    by_cases h3 : x ≤ c
    · have d2 : decide (x ≤ c) = true := decide_eq_true h3
      rw [d1, d2]
      clear h2 h3
      go_enter Tryz.func64, Tryz.ntmps64
      go_wp2
      go_ret
      exact ⟨rfl, Below.refl _ _⟩
    · have d2 : decide (x ≤ c) = false := decide_eq_false h3
      rw [d1, d2]
      clear h2 h3
      go_enter Tryz.func64, Tryz.ntmps64
      go_wp2
      go_ret
      exact ⟨rfl, Below.refl _ _⟩
  · have d1 : decide (a ≤ x) = false := decide_eq_false h2
    rw [d1, Bool.false_and]
    clear h2
    go_enter Tryz.func64, Tryz.ntmps64
    go_wp2
    go_ret
    exact ⟨rfl, Below.refl _ _⟩

theorem Tryz.class_not {v : Value} {p : Nat → Bool} {b : Nat} {w : World} (hv : IsClass v p w) (hb : Box w b v) : Class 91 #[.pointer (some ⟨b, 0, none⟩)] (fun x => !p x) w := by
  obtain ⟨g, lb, rfl, eg, hcl⟩ := hv
  intro W x hx hW
  have h0 := (hb.later hW hb.1).2
  have hc := Lib.hid (hcl W x hx hW)
  clear hcl hW hb
  cases hp : p x <;> rw [hp] at hc
  all_goals
    have HP := Lib.hid hp
    clear hp
    go_enter Tryz.func91, Tryz.ntmps91
    go_wp2_with (go_at_fn g; refine hc.out.mono ?_; rintro e w1 ⟨rfl, hb1⟩)
    go_ret
    rw [HP.out]
    exact ⟨rfl, hb1⟩

/-- The block g holds classes ps. -/
def Hold (w : World) (g : Nat) (ps : List (Nat → Bool)) : Prop :=
  g < w.heap.size ∧ ∀ (i : Nat) (p : Nat → Bool), ps[i]? = some p → ∃ v, w.cell? ⟨g, i, none⟩ = some v ∧ IsClass v p w
theorem Hold.later {w W : World} {g : Nat} {ps : List (Nat → Bool)} (h : Hold w g ps) (hb : Below w.heap.size w W) : Hold W g ps := by
  refine ⟨Nat.lt_of_lt_of_le h.1 hb.size, fun i p hp => ?_⟩
  obtain ⟨v, h1, h2⟩ := h.2 i p hp
  exact ⟨v, (hb.cell (p := ⟨g, i, none⟩) h.1).trans h1, h2.later hb⟩
def anyOf (ps : List (Nat → Bool)) (x : Nat) : Bool := ps.any (fun p => p x)
theorem any_step {ps : List (Nat → Bool)} {k : Nat} {p : Nat → Bool} (h : ps[k]? = some p) (x : Nat) : anyOf (ps.drop k) x = (p x || anyOf (ps.drop (k + 1)) x) := by
  obtain ⟨hk, rfl⟩ := List.getElem?_eq_some_iff.1 h
  rw [List.drop_eq_getElem_cons hk]; rfl

set_option maxRecDepth 100000 in
set_option maxHeartbeats 1000000 in
theorem Tryz.class_either {g cap b : Nat} {ps : List (Nat → Bool)} {w : World} (hl : ps.length ≤ 100) (hv : Hold w g ps) (hb : Box w b (.slice (some ⟨g, 0, none⟩) ps.length cap)) : Class 63 #[.pointer (some ⟨b, 0, none⟩)] (anyOf ps) w := by
  intro W x hx hW
  have h0 := (hb.later hW hb.1).2
  have HV := Lib.hid (hv.later hW)
  clear hW hb hv
  go_enter Tryz.func63, Tryz.ntmps63
  go_wp2
  go_loopw [8] (fun i wr => ∃ k : Nat, k ≤ ps.length ∧ i = .int .i64 (k : Int) ∧ anyOf ps x = anyOf (ps.drop k) x ∧ Below W.heap.size W wr) (fun i _ => ps.length - (intOf i).toNat)
  case atStart => exact ⟨0, Nat.zero_le _, rfl, rfl, Below.refl _ _⟩
  case round =>
    obtain ⟨k, hk, rfl, he, hB⟩ := hrel
    by_cases hlt : k < ps.length
    · have hp : ps[k]? = some ps[k] := List.getElem?_eq_getElem hlt
      obtain ⟨v, h1, gv, lb, rfl, eg, hcl⟩ := (HV.out.later hB).2 k _ hp
      rw [any_step hp] at he
      have hc := Lib.hid (hcl wr x hx (Below.refl _ _))
      clear hcl hp
      cases hpx : ps[k] x with
      | true =>
        rw [hpx] at hc he
        have HE := Lib.hid he
        clear he hpx
        go_wp2_with (go_at_fn gv; refine hc.out.mono ?_; rintro e w1 ⟨rfl, hb1⟩)
        go_ret
        rw [HE.out]
        exact ⟨rfl, hB.trans (hb1.mono hB.size)⟩
      | false =>
        rw [hpx] at hc he
        have HE := Lib.hid he
        clear he hpx
        go_wp2_with (go_at_fn gv; refine hc.out.mono ?_; rintro e w1 ⟨rfl, hb1⟩)
        go_roundw
        case rel => exact ⟨k + 1, by omega, by go_num, by rw [HE.out, Bool.false_or], hB.trans (hb1.mono hB.size)⟩
        case measure => simp [intOf]; omega
    · have hkk : k = ps.length := by omega
      subst hkk
      rw [List.drop_length] at he
      have HE := Lib.hid he
      clear he
      go_wp2
      go_ret
      rw [HE.out]
      exact ⟨rfl, hB⟩

theorem Tryz.oneOf_calls (s : ByteArray) (w : World) (hlow : Low s) :
    Calls Tryz.prog 46 #[.string s] w fun e w' => ∃ v, e = .returned v ∧ IsClass v (has s) w' ∧ Below w.heap.size w w' := by
  have HL := Lib.hid hlow
  clear hlow
  go_enter Tryz.func46, Tryz.ntmps46
  go_wp2
  go_ret
  exact ⟨_, rfl, ⟨65, _, rfl, Tryz.enters37, Tryz.class_oneOf s w.heap.size _ HL.out (Box.new _ _ _)⟩, (Below.refl _ _).alloc (Nat.le_refl _) _⟩
theorem Tryz.span_calls (a c : Nat) (w : World) :
    Calls Tryz.prog 45 #[.int .i32 (a : Int), .int .i32 (c : Int)] w fun e w' => ∃ v, e = .returned v ∧ IsClass v (between a c) w' ∧ Below w.heap.size w w' := by
  go_enter Tryz.func45, Tryz.ntmps45
  go_wp2
  go_ret
  have k1 : Below w.heap.size w (w.alloc (.cells #[.int .i32 (a : Int)] 21)) := (Below.refl _ _).alloc (Nat.le_refl _) _
  have k2 : Below (w.heap.size + 1) (w.alloc (.cells #[.int .i32 (a : Int)] 21)) ((w.alloc (.cells #[.int .i32 (a : Int)] 21)).alloc (.cells #[.int .i32 (c : Int)] 21)) := (Below.refl _ _).alloc (by simp) _
  have b1 := (Box.new w (.int .i32 (a : Int)) 21).later k2 (by omega)
  have b2 := Box.new (w.alloc (.cells #[.int .i32 (a : Int)] 21)) (.int .i32 (c : Int)) 21
  rw [show (w.alloc (.cells #[.int .i32 (a : Int)] 21)).heap.size = w.heap.size + 1 from by simp] at b2
  exact ⟨_, rfl, ⟨64, _, rfl, Tryz.enters41, Tryz.class_span a c w.heap.size (w.heap.size + 1) _ b1 b2⟩, k1.trans (k2.mono (by omega))⟩
theorem Tryz.not_calls {v : Value} {p : Nat → Bool} {w : World} (hv : IsClass v p w) :
    Calls Tryz.prog 79 #[v] w fun e w' => ∃ v', e = .returned v' ∧ IsClass v' (fun x => !p x) w' ∧ Below w.heap.size w w' := by
  have HV := Lib.hid hv
  obtain ⟨g, lb, rfl, _⟩ := hv
  go_enter Tryz.func79, Tryz.ntmps79
  go_wp2
  go_ret
  have hb := fun o => Below.alloc (Below.refl w.heap.size w) (Nat.le_refl _) o
  exact ⟨_, rfl, ⟨91, _, rfl, Tryz.enters39, Tryz.class_not (HV.out.later (hb _)) (Box.new _ _ _)⟩, hb _⟩
theorem Tryz.either_calls {g cap : Nat} {ps : List (Nat → Bool)} {w : World} (hl : ps.length ≤ 100) (hv : Hold w g ps) :
    Calls Tryz.prog 44 #[.slice (some ⟨g, 0, none⟩) ps.length cap] w fun e w' => ∃ v', e = .returned v' ∧ IsClass v' (anyOf ps) w' ∧ Below w.heap.size w w' := by
  have HV := Lib.hid hv
  clear hv
  go_enter Tryz.func44, Tryz.ntmps44
  go_wp2
  go_ret
  have hb : Below w.heap.size w (w.alloc (.cells #[.slice (some ⟨g, 0, none⟩) ps.length cap] 96)) := (Below.refl _ _).alloc (Nat.le_refl _) _
  exact ⟨_, rfl, ⟨63, _, rfl, Tryz.enters40, Tryz.class_either hl (HV.out.later hb) (Box.new _ _ _)⟩, hb⟩
#print axioms Tryz.class_oneOf
#print axioms Tryz.class_span
#print axioms Tryz.class_not
#print axioms Tryz.class_either
#print axioms Tryz.either_calls
end Go.Proofs
/- words.seek and words.inside of this program, as contracts. Conditions: a part of a text; a class of signs that takes all of the high ones, or none. -/
namespace Go.Wds
theorem extract_size' (s : ByteArray) {a b : Nat} (hab : a ≤ b) (hb : b ≤ s.size) : (s.extract a b).size = b - a := by
  simp [ByteArray.size_extract]; omega
theorem extract_at (s : ByteArray) {a b j : Nat} (hj : j < (s.extract a b).size) (h : a + j < s.size) : (s.extract a b)[j]'hj = s[a + j]'h := by
  rw [ByteArray.getElem_extract]
end Go.Wds
namespace Go.Proofs
open Go.RowKit Go.Shelf Go.Wds

set_option maxRecDepth 100000 in
set_option maxHeartbeats 1000000 in
theorem Tryz.seek_calls {v : Value} {p : Nat → Bool} (s : ByteArray) (a b : Nat) (w : World) (hab : a ≤ b) (hbs : b ≤ s.size) (hs : s.size ≤ 2000000) (hp : Flat p) (hv : IsClass v p w) :
    Calls Tryz.prog 50 #[.string s, .int .i64 (a : Int), .int .i64 (b : Int), v] w fun e w' => e = .returned (.int .i64 (seekL (ofB p) s.data.toList a b : Nat)) ∧ Below w.heap.size w w' := by
  obtain ⟨g, lb, rfl, eg, hcl⟩ := hv
  obtain ⟨t, ht⟩ : ∃ t, s.extract a b = t := ⟨_, rfl⟩
  have hts := extract_size' s hab hbs
  rw [ht] at hts
  have hta : ∀ j (hj : j < t.size), ∃ h : a + j < s.size, t[j]'hj = s[a + j]'h := fun j hj => ⟨by omega, by subst ht; exact extract_at s hj (by omega)⟩
  have HT := Lib.hid hts
  have HA := Lib.hid hta
  have HCL := Lib.hid hcl
  have htm : t.size ≤ 2000000 := by omega
  clear hts hta hcl
  have hn := fun (wr : World) (pos : Nat) (ty : TypeId) hk h => Lib.run_next_any_at (P := Tryz.prog) wr w.heap.size t pos ty hk h
  have hend := fun (wr : World) (pos : Nat) (ty : TypeId) hk h => Lib.run_next_end_at (P := Tryz.prog) wr w.heap.size t pos ty hk h
  go_enter Tryz.func50, Tryz.ntmps50
  go_wp2
  go_loopw [] (fun wr => ∃ pos : Nat, wr.heap[w.heap.size]? = some (.stringIter t pos) ∧ pos ≤ t.size ∧ (∀ j (hj : j < t.size), j < pos → ofB p (t[j]'hj) = false) ∧ Below w.heap.size w wr) (fun wr => t.size - wr.iterPos w.heap.size)
  case atStart => exact ⟨0, World.iter_heap w t 0, Nat.zero_le _, fun j hj h => by omega, (Below.refl _ w).alloc (Nat.le_refl _) _⟩
  case round =>
    clear ht
    obtain ⟨pos, hit, hpos, hno, hB⟩ := hrel
    by_cases hlt : pos < t.size
    · have hn' := fun ty => hn wr pos ty hit hlt
      obtain ⟨c1, c2, c3, c4⟩ := class_step hp t pos hlt
      have hle := Lib.rune_le t pos
      obtain ⟨R, hR⟩ : ∃ R, (Utf8.decode t pos).1 = R := ⟨_, rfl⟩
      obtain ⟨K, hK⟩ : ∃ K, (Utf8.decode t pos).2 = K := ⟨_, rfl⟩
      rw [hR] at c1 c4 hle
      rw [hK] at c2 c3 c4
      rw [hR, hK] at hn'
      clear hR hK
      have hit2 := Lib.iterAt_heap wr w.heap.size t pos (pos + K) hit
      have hB2 := Lib.below_iterAt hB (k := w.heap.size) (Nat.le_refl _) t (pos + K)
      obtain ⟨W, hWd⟩ : ∃ W, wr.iterAt w.heap.size t (pos + K) = W := ⟨_, rfl⟩
      rw [hWd] at hn' hit2 hB2
      have hltW : w.heap.size < W.heap.size := (Array.getElem?_eq_some_iff.1 hit2).1
      have hc := Lib.hid (HCL.out W R hle hB2)
      cases hpr : p R with
      | true =>
        rw [hpr] at hc c1
        have hsk : seekL (ofB p) s.data.toList a b = a + pos := by
          have hts := HT.out
          obtain ⟨hx, hx2⟩ := HA.out pos hlt
          refine seek_eq (by omega) (by omega) (fun j c h1 h2 h3 => ?_) (fun _ => ⟨_, list_get s (a + pos) hx, by rw [← hx2]; exact c1.symm⟩)
          obtain ⟨hy, hy2⟩ := HA.out (j - a) (by omega)
          have h4 := hno (j - a) (by omega) (by omega)
          rw [hy2] at h4
          rw [show a + (j - a) = j from by omega] at hy
          rw [list_get s j hy] at h3
          cases h3
          have e : a + (j - a) = j := by omega
          simpa only [e] using h4
        have hsum : IntKind.i64.wrap ((a : Int) + (pos : Int)) = (a : Int) + (pos : Int) := IntWalk.i64_in _ (by omega)
        have HS := Lib.hid hsk
        clear hpr c1 c4 hn hend hno hsk
        go_wp2_with (go_at_fn g; refine hc.out.mono ?_; rintro e w1 ⟨rfl, hb1⟩)
        go_ret
        rw [HS.out]
        exact ⟨rfl, hB2.trans (hb1.mono hB2.size)⟩
      | false =>
        rw [hpr] at hc
        have hno2 : ∀ j (hj : j < t.size), j < pos + K → ofB p (t[j]'hj) = false := fun j hj h1 => by
          by_cases h2 : j < pos
          · exact hno j hj h2
          · have := c4 hpr j (by omega) h1
            rwa [get_of t j hj] at this
        have HN := Lib.hid hno2
        clear hpr c1 c4 hn hend hno hno2
        go_wp2_with (go_at_fn g; refine hc.out.mono ?_; rintro e w1 ⟨rfl, hb1⟩)
        have hit3 := (hb1.block _ hltW).trans hit2
        go_roundw
        case rel => exact ⟨pos + K, hit3, c3, HN.out, hB2.trans (hb1.mono hB2.size)⟩
        case measure => simp [World.iterPos, hit, hit3]; omega
    · have he' := fun ty => hend wr pos ty hit hlt
      have hsk : seekL (ofB p) s.data.toList a b = b := by
        have hts := HT.out
        refine seek_eq hab (Nat.le_refl _) (fun j c h1 h2 h3 => ?_) (fun h => by omega)
        obtain ⟨hy, hy2⟩ := HA.out (j - a) (by omega)
        have h4 := hno (j - a) (by omega) (by omega)
        rw [hy2] at h4
        rw [show a + (j - a) = j from by omega] at hy
        rw [list_get s j hy] at h3
        cases h3
        have e : a + (j - a) = j := by omega
        simpa only [e] using h4
      have HS := Lib.hid hsk
      clear hn hend hno hsk
      go_wp2
      go_ret
      rw [HS.out]
      exact ⟨rfl, hB⟩
#print axioms Tryz.seek_calls

/-- Whether two numbers are the places of a part of n bytes. -/
def inB (n : Nat) (a b : Int) : Bool := decide (0 ≤ a ∧ a ≤ b ∧ b ≤ n)
set_option maxRecDepth 100000 in
theorem Tryz.inside_calls (s : ByteArray) (a b : Int) (w : World) :
    Calls Tryz.prog 49 #[.string s, .int .i64 a, .int .i64 b] w fun e w' => e = .returned (.bool (inB s.size a b)) ∧ w' = w := by
  by_cases h1 : 0 ≤ a
  · have d1 : decide (0 ≤ a) = true := decide_eq_true h1
    by_cases h2 : a ≤ b
    · have d2 : decide (a ≤ b) = true := decide_eq_true h2
      by_cases h3 : b ≤ s.size
      · have d3 : decide (b ≤ (s.size : Int)) = true := decide_eq_true h3
        have H := Lib.hid (show inB s.size a b = true from decide_eq_true ⟨h1, h2, h3⟩)
        clear h1 h2 h3
        go_enter Tryz.func49, Tryz.ntmps49
        go_wp2
        go_ret
        rw [H.out]; exact ⟨rfl, rfl⟩
      · have d3 : decide (b ≤ (s.size : Int)) = false := decide_eq_false h3
        have H := Lib.hid (show inB s.size a b = false from decide_eq_false fun h => h3 h.2.2)
        clear h1 h2 h3
        go_enter Tryz.func49, Tryz.ntmps49
        go_wp2
        go_ret
        rw [H.out]; exact ⟨rfl, rfl⟩
    · have d2 : decide (a ≤ b) = false := decide_eq_false h2
      have H := Lib.hid (show inB s.size a b = false from decide_eq_false fun h => h2 h.2.1)
      clear h1 h2
      go_enter Tryz.func49, Tryz.ntmps49
      go_wp2
      go_ret
      rw [H.out]; exact ⟨rfl, rfl⟩
  · have d1 : decide (0 ≤ a) = false := decide_eq_false h1
    have H := Lib.hid (show inB s.size a b = false from decide_eq_false fun h => h1 h.1)
    clear h1
    go_enter Tryz.func49, Tryz.ntmps49
    go_wp2
    go_ret
    rw [H.out]; exact ⟨rfl, rfl⟩
#print axioms Tryz.inside_calls
end Go.Proofs
