/- Plain facts on layouts of matrices; no program. kind of 1 to 7; n rows; places are told as pairs of a row and a column. -/
import Derived.Shelf.Abstract
import Derived.Shelf.RegionOpen
import Derived.WalkKit
import Derived.LoopNIn
import Derived.LoopIn
import Derived.Lib.OthersKept
import Derived.Lib.Hide
import Derived.Test.YthgagmndefaniaaProg
import Derived.Laws.AppendOwn
import Derived.Laws.OwnMore
import Derived.Laws.MakeOwn
import Derived.Lib.QuietBelow
import Derived.RangeFuncRecord
import Derived.Deep.QuietTactic
import Derived.BigQuiet
import Derived.Test.YthgagmndefaniaaG06
import Derived.Lib.ItoaNum
import Derived.RowKit
import Derived.Test.YthgagmndefaniaaG01
import Derived.Test.YthgagmndefaniaaG03
namespace Go.Layout

/-- Does a layout tell the number of row i and column j? -/
def tells (k i j : Nat) : Bool :=
  if k = 2 ∨ k = 6 then decide (i < j) else if k = 3 ∨ k = 7 then decide (j < i) else if k = 4 then decide (i ≤ j) else if k = 5 then decide (j ≤ i) else true
/-- The place of step a, b of two loops: column by column in two of the layouts. -/
def cellAt (k : Nat) (p : Nat × Nat) : Nat × Nat := if k = 6 ∨ k = 7 then (p.2, p.1) else p
/-- All pairs, row by row. -/
def pairs (n : Nat) : List (Nat × Nat) := (List.range (n * n)).map fun x => (x / n, x % n)
/-- The places that a layout tells among the first s steps, in its order. -/
def toldUpto (k n s : Nat) : List (Nat × Nat) := (((pairs n).take s).map (cellAt k)).filter fun q => tells k q.1 q.2
def places (k n : Nat) : List (Nat × Nat) := ((pairs n).map (cellAt k)).filter fun q => tells k q.1 q.2

theorem pairs_length (n : Nat) : (pairs n).length = n * n := by simp [pairs]
theorem div_step {n a b : Nat} (hb : b < n) : (a * n + b) / n = a := by
  rw [Nat.mul_comm, Nat.mul_add_div (by omega), Nat.div_eq_of_lt hb]; omega
theorem mod_step {n a b : Nat} (hb : b < n) : (a * n + b) % n = b := by
  rw [Nat.mul_comm, Nat.mul_add_mod, Nat.mod_eq_of_lt hb]
theorem step_lt {n a b : Nat} (ha : a < n) (hb : b < n) : a * n + b < n * n := by
  have h1 : (a + 1) * n ≤ n * n := Nat.mul_le_mul_right n ha
  rw [Nat.add_mul] at h1
  omega
theorem pairs_get {n a b : Nat} (ha : a < n) (hb : b < n) : (pairs n)[a * n + b]? = some (a, b) := by
  have h := step_lt ha hb
  simp [pairs, List.getElem?_range h, div_step hb, mod_step hb]
theorem mem_pairs {n a b : Nat} : (a, b) ∈ pairs n ↔ a < n ∧ b < n := by
  constructor
  · intro h
    obtain ⟨x, hx, he⟩ := List.mem_map.1 h
    have hx := List.mem_range.1 hx
    have hn : 0 < n := by rcases Nat.eq_zero_or_pos n with h0 | h0; · subst h0; simp at hx
                          · exact h0
    cases he
    exact ⟨(Nat.div_lt_iff_lt_mul hn).2 hx, Nat.mod_lt _ hn⟩
  · rintro ⟨ha, hb⟩
    exact List.mem_of_getElem? (pairs_get ha hb)
theorem nodup_map {α β : Type} {f : α → β} {l : List α} (h : ∀ x ∈ l, ∀ y ∈ l, f x = f y → x = y) (hl : l.Nodup) : (l.map f).Nodup := by
  unfold List.Nodup at hl ⊢
  rw [List.pairwise_map]
  exact hl.imp_of_mem fun hx hy hne e => hne (h _ hx _ hy e)
theorem pairs_nodup (n : Nat) : (pairs n).Nodup := by
  refine nodup_map ?_ List.nodup_range
  intro x hx y hy h
  have h1 : x / n = y / n := (Prod.mk.inj h).1
  have h2 : x % n = y % n := (Prod.mk.inj h).2
  rw [← Nat.div_add_mod x n, ← Nat.div_add_mod y n, h1, h2]
theorem cellAt_cellAt (k : Nat) (p : Nat × Nat) : cellAt k (cellAt k p) = p := by unfold cellAt; split <;> rfl
theorem cellAt_inj {k : Nat} {p q : Nat × Nat} (h : cellAt k p = cellAt k q) : p = q := by rw [← cellAt_cellAt k p, h, cellAt_cellAt]
theorem cells_nodup (k n : Nat) : ((pairs n).map (cellAt k)).Nodup := nodup_map (fun _ _ _ _ h => cellAt_inj h) (pairs_nodup n)
theorem places_nodup (k n : Nat) : (places k n).Nodup := (cells_nodup k n).filter _
theorem mem_cells {k n i j : Nat} : (i, j) ∈ (pairs n).map (cellAt k) ↔ i < n ∧ j < n := by
  rw [List.mem_map]
  constructor
  · rintro ⟨⟨a, b⟩, h, he⟩
    have := mem_pairs.1 h
    unfold cellAt at he
    split at he <;> cases he <;> exact ⟨by omega, by omega⟩
  · rintro ⟨hi, hj⟩
    refine ⟨cellAt k (i, j), ?_, cellAt_cellAt k _⟩
    unfold cellAt
    split
    · exact mem_pairs.2 ⟨hj, hi⟩
    · exact mem_pairs.2 ⟨hi, hj⟩
theorem mem_places {k n i j : Nat} : (i, j) ∈ places k n ↔ (i < n ∧ j < n) ∧ tells k i j = true := by
  unfold places; rw [List.mem_filter, mem_cells]
theorem toldUpto_zero (k n : Nat) : toldUpto k n 0 = [] := by simp [toldUpto]
theorem toldUpto_all (k n : Nat) : toldUpto k n (n * n) = places k n := by
  unfold toldUpto places; rw [List.take_of_length_le (by rw [pairs_length]; exact Nat.le_refl _)]
theorem toldUpto_next {k n a b : Nat} (ha : a < n) (hb : b < n) :
    toldUpto k n (a * n + b + 1) = toldUpto k n (a * n + b) ++ if tells k (cellAt k (a, b)).1 (cellAt k (a, b)).2 = true then [cellAt k (a, b)] else [] := by
  unfold toldUpto
  rw [List.take_add_one, pairs_get ha hb]
  simp only [Option.toList_some, List.map_append, List.filter_append, List.map_cons, List.map_nil, List.filter_cons, List.filter_nil]
theorem toldUpto_row {k n a : Nat} : toldUpto k n (a * n + n) = toldUpto k n ((a + 1) * n + 0) := by rw [Nat.add_mul, Nat.one_mul, Nat.add_zero]
theorem toldUpto_pre (k n s : Nat) : toldUpto k n s <+: places k n := by
  unfold toldUpto places
  exact ((List.take_prefix s (pairs n)).map _).filter _
theorem toldUpto_le (k n s : Nat) : (toldUpto k n s).length ≤ (places k n).length := (toldUpto_pre k n s).length_le
/-- The place of a step that is told is the next one. -/
theorem places_at {k n a b : Nat} (ha : a < n) (hb : b < n) (h : tells k (cellAt k (a, b)).1 (cellAt k (a, b)).2 = true) :
    (places k n)[(toldUpto k n (a * n + b)).length]? = some (cellAt k (a, b)) := by
  have h1 := toldUpto_next (k := k) ha hb
  rw [if_pos h] at h1
  have h2 := toldUpto_pre k n (a * n + b + 1)
  rw [h1] at h2
  obtain ⟨r, hr⟩ := h2
  rw [← hr]
  simp

/-! How many are told. -/
/-- Is step a, b told? -/
def told (k a b : Nat) : Bool := tells k (cellAt k (a, b)).1 (cellAt k (a, b)).2
theorem told_one (a b : Nat) : told 1 a b = true := by simp [told, tells]
theorem told_up {k a b : Nat} (hk : k = 2 ∨ k = 7) : told k a b = decide (a < b) := by rcases hk with rfl | rfl <;> simp [told, tells, cellAt]
theorem told_low {k a b : Nat} (hk : k = 3 ∨ k = 6) : told k a b = decide (b < a) := by rcases hk with rfl | rfl <;> simp [told, tells, cellAt]
theorem told_four (a b : Nat) : told 4 a b = decide (a ≤ b) := by simp [told, tells, cellAt]
theorem told_five (a b : Nat) : told 5 a b = decide (b ≤ a) := by simp [told, tells, cellAt]
/-- How many are told of the first b steps of row a. -/
def rowUp (k a : Nat) : Nat → Nat
  | 0 => 0
  | b + 1 => rowUp k a b + if told k a b = true then 1 else 0
theorem len_next {k n a b : Nat} (ha : a < n) (hb : b < n) : (toldUpto k n (a * n + b + 1)).length = (toldUpto k n (a * n + b)).length + if told k a b = true then 1 else 0 := by
  rw [toldUpto_next ha hb]
  unfold told
  split <;> simp
theorem len_row {k n a b : Nat} (ha : a < n) (hb : b ≤ n) : (toldUpto k n (a * n + b)).length = (toldUpto k n (a * n)).length + rowUp k a b := by
  induction b with
  | zero => simp [rowUp]
  | succ b ih => rw [← Nat.add_assoc, len_next ha (by omega), ih (by omega), rowUp]; omega
/-- How many are told ahead of row a, row by row. -/
def rowsUp (k n : Nat) : Nat → Nat
  | 0 => 0
  | a + 1 => rowsUp k n a + rowUp k a n
theorem len_rows {k n a : Nat} (ha : a ≤ n) : (toldUpto k n (a * n)).length = rowsUp k n a := by
  induction a with
  | zero => simp [rowsUp, toldUpto_zero]
  | succ a ih => rw [Nat.add_mul, Nat.one_mul, len_row (by omega) (Nat.le_refl n), ih (by omega), rowsUp]
theorem len_at {k n a b : Nat} (ha : a < n) (hb : b ≤ n) : (toldUpto k n (a * n + b)).length = rowsUp k n a + rowUp k a b := by
  rw [len_row ha hb, len_rows (by omega)]
def tri : Nat → Nat
  | 0 => 0
  | a + 1 => tri a + a
theorem tri_eq (a : Nat) : 2 * tri a = a * (a - 1) := by
  induction a with
  | zero => rfl
  | succ a ih =>
    cases a with
    | zero => rfl
    | succ c =>
      simp only [tri, Nat.add_sub_cancel] at ih ⊢
      have : (c + 1 + 1) * (c + 1) = (c + 1) * c + 2 * (c + 1) := by simp only [Nat.add_mul, Nat.mul_add]; omega
      omega
theorem tri_half (n : Nat) : n * (n - 1) / 2 = tri n := by have := tri_eq n; omega
theorem tri_half' (n : Nat) : n * (n + 1) / 2 = tri (n + 1) := by have := tri_eq (n + 1); rw [Nat.add_sub_cancel, Nat.mul_comm (n + 1) n] at this; omega
/-- The number of places. -/
def count (k n : Nat) : Nat := if k = 1 then n * n else if k = 4 ∨ k = 5 then n * (n + 1) / 2 else n * (n - 1) / 2
theorem rowUp_one (a b : Nat) : rowUp 1 a b = b := by induction b with | zero => rfl | succ b ih => rw [rowUp, ih, told_one]; rfl
theorem rowUp_low {k : Nat} (hk : k = 3 ∨ k = 6) (a b : Nat) : rowUp k a b = min b a := by
  induction b with
  | zero => simp [rowUp]
  | succ b ih => rw [rowUp, ih, told_low hk]; by_cases h : b < a <;> simp [h] <;> omega
theorem rowUp_five (a b : Nat) : rowUp 5 a b = min b (a + 1) := by
  induction b with
  | zero => simp [rowUp]
  | succ b ih => rw [rowUp, ih, told_five]; by_cases h : b ≤ a <;> simp [h] <;> omega
theorem rowUp_up {k : Nat} (hk : k = 2 ∨ k = 7) (a b : Nat) : rowUp k a b = b - (a + 1) := by
  induction b with
  | zero => simp [rowUp]
  | succ b ih => rw [rowUp, ih, told_up hk]; by_cases h : a < b <;> simp [h] <;> omega
theorem rowUp_four (a b : Nat) : rowUp 4 a b = b - a := by
  induction b with
  | zero => simp [rowUp]
  | succ b ih => rw [rowUp, ih, told_four]; by_cases h : a ≤ b <;> simp [h] <;> omega
theorem rows_one (n a : Nat) : rowsUp 1 n a = a * n := by induction a with | zero => simp [rowsUp] | succ a ih => rw [rowsUp, ih, rowUp_one, Nat.add_mul, Nat.one_mul]
theorem rows_low {k : Nat} (hk : k = 3 ∨ k = 6) {n a : Nat} (ha : a ≤ n) : rowsUp k n a = tri a := by
  induction a with
  | zero => rfl
  | succ a ih => rw [rowsUp, ih (by omega), rowUp_low hk, tri]; omega
theorem rows_five {n a : Nat} (ha : a ≤ n) : rowsUp 5 n a = tri (a + 1) := by
  induction a with
  | zero => rfl
  | succ a ih => rw [rowsUp, ih (by omega), rowUp_five]; show _ = tri (a + 1) + (a + 1); omega
theorem rows_up {k : Nat} (hk : k = 2 ∨ k = 7) {n a : Nat} (ha : a ≤ n) : rowsUp k n a + tri (n - a) = tri n := by
  induction a with
  | zero => simp [rowsUp]
  | succ a ih =>
    have h1 := ih (by omega)
    rw [rowsUp, rowUp_up hk]
    rw [show n - a = (n - (a + 1)) + 1 by omega, tri] at h1
    omega
theorem rows_four {n a : Nat} (ha : a ≤ n) : rowsUp 4 n a + tri (n + 1 - a) = tri (n + 1) := by
  induction a with
  | zero => simp [rowsUp]
  | succ a ih =>
    have h1 := ih (by omega)
    rw [rowsUp, rowUp_four]
    rw [show n + 1 - a = (n + 1 - (a + 1)) + 1 by omega, tri] at h1
    omega
theorem places_length {k n : Nat} (hk : 1 ≤ k) (hk7 : k ≤ 7) : (places k n).length = count k n := by
  rw [← toldUpto_all, len_rows (Nat.le_refl n)]
  unfold count
  rcases (show k = 1 ∨ (k = 2 ∨ k = 7) ∨ (k = 3 ∨ k = 6) ∨ k = 4 ∨ k = 5 by omega) with rfl | hk | hk | rfl | rfl
  · rw [if_pos rfl, rows_one]
  · rw [if_neg (by omega), if_neg (by omega), tri_half]
    have := rows_up hk (Nat.le_refl n)
    rw [Nat.sub_self] at this
    simp only [tri] at this
    omega
  · rw [if_neg (by omega), if_neg (by omega), tri_half, rows_low hk (Nat.le_refl n)]
  · rw [if_neg (by omega), if_pos (by omega), tri_half']
    have := rows_four (Nat.le_refl n)
    rw [show n + 1 - n = 1 by omega] at this
    simp only [tri] at this ⊢
    omega
  · rw [if_neg (by omega), if_pos (by omega), tri_half', rows_five (Nat.le_refl n)]

/-! Where a place stands. -/
/-- At which place stands what is told of row i and column j. -/
def rank (k n i j : Nat) : Nat := (toldUpto k n ((cellAt k (i, j)).1 * n + (cellAt k (i, j)).2)).length
theorem cellAt_lt {k n i j : Nat} (hi : i < n) (hj : j < n) : (cellAt k (i, j)).1 < n ∧ (cellAt k (i, j)).2 < n := by unfold cellAt; split <;> exact ⟨by assumption, by assumption⟩
theorem rank_at {k n i j : Nat} (hi : i < n) (hj : j < n) (h : tells k i j = true) : (places k n)[rank k n i j]? = some (i, j) := by
  obtain ⟨h1, h2⟩ := cellAt_lt (k := k) hi hj
  have h3 : cellAt k ((cellAt k (i, j)).1, (cellAt k (i, j)).2) = (i, j) := cellAt_cellAt k (i, j)
  have := places_at (k := k) h1 h2 (by rw [h3]; exact h)
  rw [h3] at this
  exact this
theorem rank_lt {k n i j : Nat} (hi : i < n) (hj : j < n) (h : tells k i j = true) : rank k n i j < (places k n).length := by
  obtain ⟨h1, _⟩ := List.getElem?_eq_some_iff.1 (rank_at hi hj h); exact h1
theorem rank_inj {k n i j p q : Nat} (hi : i < n) (hj : j < n) (hp : p < n) (hq : q < n) (h : tells k i j = true) (g : tells k p q = true) (e : rank k n i j = rank k n p q) : i = p ∧ j = q := by
  have h1 := rank_at hi hj h
  have h2 := rank_at hp hq g
  rw [e, h2] at h1
  have := Option.some.inj h1
  cases this
  exact ⟨rfl, rfl⟩
theorem rank_all {k n c : Nat} (hc : c < (places k n).length) : ∃ i j, i < n ∧ j < n ∧ tells k i j = true ∧ rank k n i j = c := by
  obtain ⟨⟨i, j⟩, h⟩ : ∃ q, (places k n)[c]? = some q := ⟨_, List.getElem?_eq_getElem hc⟩
  have hm := mem_places.1 (List.mem_of_getElem? h)
  refine ⟨i, j, hm.1.1, hm.1.2, hm.2, ?_⟩
  have h2 := rank_at hm.1.1 hm.1.2 hm.2
  exact ((List.getElem?_inj hc (places_nodup k n)).1 (by rw [h, h2])).symm
/-- The index of row i and column j, either way round. -/
def index (k n i j : Nat) : Int := if tells k i j = true then (rank k n i j : Int) else if tells k j i = true then (rank k n j i : Int) else -1
theorem index_swap {k n i j : Nat} (hk : k ≠ 1) (hk1 : 1 ≤ k) (hk7 : k ≤ 7) : index k n j i = index k n i j := by
  unfold index
  by_cases h : i = j
  · subst h; rfl
  · by_cases h1 : tells k i j = true
    · have h2 : ¬ tells k j i = true := by
        unfold tells at h1 ⊢
        rcases (show k = 2 ∨ k = 3 ∨ k = 4 ∨ k = 5 ∨ k = 6 ∨ k = 7 by omega) with rfl | rfl | rfl | rfl | rfl | rfl <;> simp at h1 ⊢ <;> omega
      simp [h1, h2]
    · by_cases h2 : tells k j i = true
      · simp [h1, h2]
      · simp [h1, h2]
/-! Matrices, and what is told of them. -/
def cell (m : List Int) (n i j : Nat) : Int := m.getD (i * n + j) 0
/-- The number of row i and column j of the matrix that l tells. -/
def val (l : List Int) (k n i j : Nat) : Int := if tells k i j = true then l.getD (rank k n i j) 0 else if tells k j i = true then l.getD (rank k n j i) 0 else 0
def grid (n : Nat) (f : Nat → Nat → Int) : List Int := (pairs n).map fun p => f p.1 p.2
def unpack (k n : Nat) (l : List Int) : List Int := grid n (val l k n)
def pack (k n : Nat) (m : List Int) : List Int := (places k n).map fun q => cell m n q.1 q.2
/-- Is the number of row i and column j one that a layout can't tell? -/
def bad (k n : Nat) (m : List Int) (i j : Nat) : Bool := (decide (k ≠ 1) && decide (cell m n i j ≠ cell m n j i)) || (decide (i = j) && (!tells k i i && decide (cell m n i i ≠ 0)))

theorem grid_length (n : Nat) (f : Nat → Nat → Int) : (grid n f).length = n * n := by simp [grid, pairs]
theorem grid_get {n i j : Nat} (f : Nat → Nat → Int) (hi : i < n) (hj : j < n) : (grid n f)[i * n + j]? = some (f i j) := by
  simp [grid, pairs_get hi hj]
theorem cell_grid {n i j : Nat} (f : Nat → Nat → Int) (hi : i < n) (hj : j < n) : cell (grid n f) n i j = f i j := by
  simp [cell, List.getD, grid_get f hi hj]
theorem step_of {n x : Nat} (hx : x < n * n) : x / n < n ∧ x % n < n ∧ x / n * n + x % n = x := by
  have hn : 0 < n := by rcases Nat.eq_zero_or_pos n with h0 | h0; · subst h0; simp at hx
                        · exact h0
  exact ⟨(Nat.div_lt_iff_lt_mul hn).2 hx, Nat.mod_lt _ hn, by rw [Nat.mul_comm]; exact Nat.div_add_mod x n⟩
/-- Lists of n times n numbers are the same if their cells are. -/
theorem ext_cells {n : Nat} {l r : List Int} (hl : l.length = n * n) (hr : r.length = n * n) (h : ∀ i j, i < n → j < n → l[i * n + j]? = r[i * n + j]?) : l = r := by
  apply List.ext_getElem?
  intro x
  by_cases hx : x < n * n
  · obtain ⟨h1, h2, h3⟩ := step_of hx
    have := h _ _ h1 h2
    rwa [h3] at this
  · rw [List.getElem?_eq_none (by omega), List.getElem?_eq_none (by omega)]
theorem grid_ext {n : Nat} {f g : Nat → Nat → Int} (h : ∀ i j, i < n → j < n → f i j = g i j) : grid n f = grid n g :=
  ext_cells (grid_length n f) (grid_length n g) fun i j hi hj => by rw [grid_get f hi hj, grid_get g hi hj, h i j hi hj]
theorem step_inj {n i j p q : Nat} (hj : j < n) (hq : q < n) (h : i * n + j = p * n + q) : i = p ∧ j = q := by
  have h1 : (i * n + j) / n = (p * n + q) / n := by rw [h]
  have h2 : (i * n + j) % n = (p * n + q) % n := by rw [h]
  rw [div_step hj, div_step hq] at h1
  rw [mod_step hj, mod_step hq] at h2
  exact ⟨h1, h2⟩
theorem grid_set {n p q : Nat} (f : Nat → Nat → Int) (v : Int) (hp : p < n) (hq : q < n) : (grid n f).set (p * n + q) v = grid n fun i j => if i = p ∧ j = q then v else f i j := by
  refine ext_cells (by simp [grid_length]) (grid_length _ _) fun i j hi hj => ?_
  rw [grid_get _ hi hj, List.getElem?_set]
  by_cases h : i = p ∧ j = q
  · obtain ⟨rfl, rfl⟩ := h
    rw [if_pos rfl, if_pos (by rw [grid_length]; exact step_lt hi hj), if_pos ⟨rfl, rfl⟩]
  · rw [if_neg (fun e => h (by have := step_inj hq hj e; exact ⟨this.1.symm, this.2.symm⟩)), if_neg h, grid_get f hi hj]
theorem grid_zero (n : Nat) : grid n (fun _ _ => 0) = List.replicate (n * n) 0 := by
  refine ext_cells (grid_length _ _) (by simp) fun i j hi hj => ?_
  rw [grid_get _ hi hj, List.getElem?_replicate, if_pos (step_lt hi hj)]

theorem tells_none {k i j : Nat} (hk : 1 ≤ k) (hk7 : k ≤ 7) (h : ¬ tells k i j = true) (h2 : ¬ tells k j i = true) : i = j := by
  unfold tells at h h2
  rcases (show k = 1 ∨ k = 2 ∨ k = 3 ∨ k = 4 ∨ k = 5 ∨ k = 6 ∨ k = 7 by omega) with rfl | rfl | rfl | rfl | rfl | rfl | rfl <;> simp at h h2 <;> omega
theorem tells_both {k i j : Nat} (hk : k ≠ 1) (hk1 : 1 ≤ k) (hk7 : k ≤ 7) (h : tells k i j = true) (h2 : tells k j i = true) : i = j := by
  unfold tells at h h2
  rcases (show k = 2 ∨ k = 3 ∨ k = 4 ∨ k = 5 ∨ k = 6 ∨ k = 7 by omega) with rfl | rfl | rfl | rfl | rfl | rfl <;> simp at h h2 <;> omega
theorem tells_full (i j : Nat) : tells 1 i j = true := by simp [tells]
theorem val_swap {l : List Int} {k n i j : Nat} (hk : k ≠ 1) (hk1 : 1 ≤ k) (hk7 : k ≤ 7) : val l k n i j = val l k n j i := by
  by_cases h : i = j
  · subst h; rfl
  · unfold val
    by_cases h1 : tells k i j = true
    · have h2 : ¬ tells k j i = true := fun h2 => h (tells_both hk hk1 hk7 h1 h2)
      simp [h1, h2]
    · by_cases h2 : tells k j i = true
      · simp [h1, h2]
      · simp [h1, h2]

theorem unpack_fits {k n : Nat} (hk1 : 1 ≤ k) (hk7 : k ≤ 7) (l : List Int) {i j : Nat} (hi : i < n) (hj : j < n) : bad k n (unpack k n l) i j = false := by
  unfold bad unpack
  rw [cell_grid _ hi hj, cell_grid _ hj hi, cell_grid _ hi hi]
  have h1 : (decide (k ≠ 1) && decide (val l k n i j ≠ val l k n j i)) = false := by
    by_cases hk : k = 1
    · simp [hk]
    · simp [val_swap (l := l) (n := n) (i := i) (j := j) hk hk1 hk7]
  have h2 : (!tells k i i && decide (val l k n i i ≠ 0)) = false := by
    by_cases h : tells k i i = true
    · simp [h]
    · simp [val, h]
  rw [h1, h2]; simp
theorem pack_length (k n : Nat) (m : List Int) : (pack k n m).length = (places k n).length := by simp [pack]
theorem pack_rank {k n i j : Nat} (m : List Int) (hi : i < n) (hj : j < n) (h : tells k i j = true) : (pack k n m).getD (rank k n i j) 0 = cell m n i j := by
  simp [pack, List.getD, rank_at hi hj h]
theorem pack_unpack {k n : Nat} {l : List Int} (hl : l.length = (places k n).length) : pack k n (unpack k n l) = l := by
  apply List.ext_getElem?
  intro c
  by_cases hc : c < (places k n).length
  · obtain ⟨i, j, hi, hj, ht, hr⟩ := rank_all hc
    have h1 := rank_at hi hj ht
    rw [hr] at h1
    simp only [pack, List.getElem?_map, h1, Option.map_some]
    rw [unpack, cell_grid _ hi hj, val, if_pos ht, hr]
    simp [List.getD, List.getElem?_eq_getElem (show c < l.length by omega)]
  · rw [List.getElem?_eq_none (by rw [pack_length]; omega), List.getElem?_eq_none (by omega)]
theorem unpack_pack {k n : Nat} {m : List Int} (hk1 : 1 ≤ k) (hk7 : k ≤ 7) (hm : m.length = n * n) (hf : ∀ i j, i < n → j < n → bad k n m i j = false) : unpack k n (pack k n m) = m := by
  refine ext_cells (grid_length _ _) hm fun i j hi hj => ?_
  rw [unpack, grid_get _ hi hj]
  have hc : m[i * n + j]? = some (cell m n i j) := by
    have := step_lt hi hj
    simp [cell, List.getD, List.getElem?_eq_getElem (show i * n + j < m.length by omega)]
  rw [hc]
  congr 1
  unfold val
  by_cases h1 : tells k i j = true
  · rw [if_pos h1, pack_rank m hi hj h1]
  · rw [if_neg h1]
    have hb := hf i j hi hj
    by_cases h2 : tells k j i = true
    · rw [if_pos h2, pack_rank m hj hi h2]
      have hk : k ≠ 1 := fun e => h1 (by rw [e]; exact tells_full i j)
      simp only [bad, Bool.or_eq_false_iff, Bool.and_eq_false_iff] at hb
      rcases hb.1 with h | h
      · exact absurd hk (by simpa using h)
      · have : cell m n i j = cell m n j i := by simpa using h
        exact this.symm
    · rw [if_neg h2]
      have e := tells_none hk1 hk7 h1 h2
      subst e
      simp only [bad, Bool.or_eq_false_iff] at hb
      have h3 : tells k i i = false := by simpa using h1
      have := hb.2
      rw [h3] at this
      have h4 : cell m n i i = 0 := by simpa using this
      exact h4.symm

/-! The loops of the document's own answer: step by step. -/
/-- Which step tells row i and column j. -/
def stepOf (k n i j : Nat) : Nat := (cellAt k (i, j)).1 * n + (cellAt k (i, j)).2
def valUpto (l : List Int) (k n s i j : Nat) : Int :=
  if tells k i j = true ∧ stepOf k n i j < s then l.getD (rank k n i j) 0
  else if k ≠ 1 ∧ tells k j i = true ∧ stepOf k n j i < s then l.getD (rank k n j i) 0 else 0
def matUpto (l : List Int) (k n s : Nat) : List Int := grid n (valUpto l k n s)
theorem matUpto_zero (l : List Int) (k n : Nat) : matUpto l k n 0 = List.replicate (n * n) 0 := by
  rw [← grid_zero]
  exact grid_ext fun i j _ _ => by simp [valUpto]
theorem stepOf_lt {k n i j : Nat} (hi : i < n) (hj : j < n) : stepOf k n i j < n * n := by
  obtain ⟨h1, h2⟩ := cellAt_lt (k := k) hi hj
  exact step_lt h1 h2
theorem matUpto_all (l : List Int) {k n : Nat} : matUpto l k n (n * n) = unpack k n l :=
  grid_ext fun i j hi hj => by
    have h1 := stepOf_lt (k := k) hi hj
    have h2 := stepOf_lt (k := k) hj hi
    unfold valUpto val
    by_cases h : tells k i j = true
    · simp [h, h1]
    · by_cases hk : k = 1
      · subst hk; exact absurd (tells_full i j) h
      · simp [h, hk, h2]
theorem stepOf_eq {k n i j a b : Nat} (hi : i < n) (hj : j < n) (hb : b < n) : stepOf k n i j = a * n + b ↔ (i, j) = cellAt k (a, b) := by
  obtain ⟨_, h2⟩ := cellAt_lt (k := k) hi hj
  constructor
  · intro h
    have h3 := step_inj h2 hb h
    have h4 : cellAt k (i, j) = (a, b) := Prod.ext h3.1 h3.2
    rw [← h4, cellAt_cellAt]
  · intro h
    unfold stepOf
    rw [h, cellAt_cellAt]
theorem matUpto_none {l : List Int} {k n a b : Nat} (hb : b < n) (h : told k a b = false) : matUpto l k n (a * n + b + 1) = matUpto l k n (a * n + b) :=
  grid_ext fun i j hi hj => by
    have key : ∀ p q, p < n → q < n → tells k p q = true → (stepOf k n p q < a * n + b + 1 ↔ stepOf k n p q < a * n + b) := by
      intro p q hp hq ht
      have : stepOf k n p q ≠ a * n + b := fun e => by
        have e2 := (stepOf_eq hp hq hb).1 e
        unfold told at h
        rw [← e2] at h
        rw [ht] at h
        cases h
      omega
    unfold valUpto
    have e1 : (tells k i j = true ∧ stepOf k n i j < a * n + b + 1) ↔ (tells k i j = true ∧ stepOf k n i j < a * n + b) := by
      constructor
      · exact fun h => ⟨h.1, (key i j hi hj h.1).1 h.2⟩
      · exact fun h => ⟨h.1, (key i j hi hj h.1).2 h.2⟩
    have e2 : (k ≠ 1 ∧ tells k j i = true ∧ stepOf k n j i < a * n + b + 1) ↔ (k ≠ 1 ∧ tells k j i = true ∧ stepOf k n j i < a * n + b) := by
      constructor
      · exact fun h => ⟨h.1, h.2.1, (key j i hj hi h.2.1).1 h.2.2⟩
      · exact fun h => ⟨h.1, h.2.1, (key j i hj hi h.2.1).2 h.2.2⟩
    simp only [e1, e2]
theorem rank_step {k n i j : Nat} : rank k n i j = (toldUpto k n (stepOf k n i j)).length := rfl
theorem matUpto_told {l : List Int} {k n a b i j : Nat} (hk1 : 1 ≤ k) (hk7 : k ≤ 7) (ha : a < n) (hb : b < n) (hc : cellAt k (a, b) = (i, j)) (h : told k a b = true) :
    matUpto l k n (a * n + b + 1) = if k = 1 then (matUpto l k n (a * n + b)).set (i * n + j) (l.getD (toldUpto k n (a * n + b)).length 0)
      else ((matUpto l k n (a * n + b)).set (i * n + j) (l.getD (toldUpto k n (a * n + b)).length 0)).set (j * n + i) (l.getD (toldUpto k n (a * n + b)).length 0) := by
  have hij : i < n ∧ j < n := by have := cellAt_lt (k := k) ha hb; rw [hc] at this; exact this
  have ht : tells k i j = true := by unfold told at h; rw [hc] at h; exact h
  have hs : stepOf k n i j = a * n + b := (stepOf_eq hij.1 hij.2 hb).2 hc.symm
  have hr : rank k n i j = (toldUpto k n (a * n + b)).length := by rw [rank_step, hs]
  have step : ∀ p q, p < n → q < n → (stepOf k n p q < a * n + b + 1 ↔ stepOf k n p q < a * n + b ∨ (p = i ∧ q = j)) := by
    intro p q hp hq
    have := stepOf_eq (k := k) (a := a) hp hq hb
    rw [hc, Prod.mk.injEq] at this
    omega
  rw [← hr]
  unfold matUpto
  by_cases hk : k = 1
  · rw [if_pos hk, grid_set _ _ hij.1 hij.2]
    refine grid_ext fun p q hp hq => ?_
    subst hk
    unfold valUpto
    simp only [tells_full, true_and, step p q hp hq, ne_eq, not_true_eq_false, false_and, if_false]
    by_cases e : p = i ∧ q = j
    · simp [e]
    · simp [e]
  · rw [if_neg hk, grid_set _ _ hij.1 hij.2, grid_set _ _ hij.2 hij.1]
    refine grid_ext fun p q hp hq => ?_
    unfold valUpto
    simp only [step p q hp hq, step q p hq hp]
    by_cases e1 : p = i ∧ q = j
    · obtain ⟨rfl, rfl⟩ := e1
      by_cases e2 : p = q
      · subst e2; simp [ht]
      · have : ¬ (p = q ∧ q = p) := fun e => e2 e.1
        simp [ht, this]
    · by_cases e2 : p = j ∧ q = i
      · obtain ⟨rfl, rfl⟩ := e2
        have hn : ¬ tells k p q = true := fun h3 => e1 (by have := tells_both hk hk1 hk7 h3 ht; exact ⟨this, this.symm⟩)
        simp [hn, hk, ht]
      · have e3 : ¬ (q = i ∧ p = j) := fun e => e2 ⟨e.2, e.1⟩
        simp only [e1, e2, e3, or_false, if_false, hk, ne_eq, not_false_eq_true, true_and]
/-- What is packed behind the first s steps. -/
def packUpto (m : List Int) (k n s : Nat) : List Int := (toldUpto k n s).map fun q => cell m n q.1 q.2
theorem packUpto_zero (m : List Int) (k n : Nat) : packUpto m k n 0 = [] := by simp [packUpto, toldUpto_zero]
theorem packUpto_all (m : List Int) (k n : Nat) : packUpto m k n (n * n) = pack k n m := by simp [packUpto, pack, toldUpto_all]
theorem packUpto_next {m : List Int} {k n a b i j : Nat} (ha : a < n) (hb : b < n) (hc : cellAt k (a, b) = (i, j)) :
    packUpto m k n (a * n + b + 1) = packUpto m k n (a * n + b) ++ if told k a b = true then [cell m n i j] else [] := by
  unfold packUpto told
  rw [toldUpto_next ha hb, hc]
  by_cases h : tells k i j = true <;> simp [h]
/-- May a matrix be told in a layout? -/
def fits (k n : Nat) (m : List Int) : Prop := ∀ i j, i < n → j < n → bad k n m i j = false
def fitsUpto (k n : Nat) (m : List Int) (s : Nat) : Prop := ∀ i j, i < n → j < n → stepOf k n i j < s → bad k n m i j = false
theorem fitsUpto_zero (k n : Nat) (m : List Int) : fitsUpto k n m 0 := fun _ _ _ _ h => absurd h (by omega)
theorem fitsUpto_all {k n : Nat} {m : List Int} : fitsUpto k n m (n * n) ↔ fits k n m := ⟨fun h i j hi hj => h i j hi hj (stepOf_lt hi hj), fun h i j hi hj _ => h i j hi hj⟩
theorem fitsUpto_next {k n a b i j : Nat} {m : List Int} (hb : b < n) (hc : cellAt k (a, b) = (i, j)) (h : fitsUpto k n m (a * n + b)) (hg : bad k n m i j = false) : fitsUpto k n m (a * n + b + 1) := by
  intro p q hp hq hs
  by_cases e : stepOf k n p q = a * n + b
  · have := (stepOf_eq hp hq hb).1 e
    rw [hc] at this
    cases this
    exact hg
  · exact h p q hp hq (by omega)
theorem not_fits {k n a b i j : Nat} {m : List Int} (ha : a < n) (hb : b < n) (hc : cellAt k (a, b) = (i, j)) (hg : bad k n m i j = true) : ¬ fits k n m := fun h => by
  have hij : i < n ∧ j < n := by have := cellAt_lt (k := k) ha hb; rw [hc] at this; exact this
  rw [h i j hij.1 hij.2] at hg
  cases hg

/-! Upper rows are lower columns. -/
theorem rowUp_told {k k' : Nat} (h : ∀ a b, told k a b = told k' a b) (a b : Nat) : rowUp k a b = rowUp k' a b := by
  induction b with
  | zero => rfl
  | succ b ih => rw [rowUp, rowUp, ih, h]
theorem rowsUp_told {k k' : Nat} (h : ∀ a b, told k a b = told k' a b) (n a : Nat) : rowsUp k n a = rowsUp k' n a := by
  induction a with
  | zero => rfl
  | succ a ih => rw [rowsUp, rowsUp, ih, rowUp_told h]
theorem rank_turn {k k' n i j : Nat} (h : ∀ a b, told k a b = told k' a b) (hc : cellAt k (i, j) = cellAt k' (j, i)) (hi : i < n) (hj : j < n) : rank k n i j = rank k' n j i := by
  unfold rank
  obtain ⟨h1, h2⟩ := cellAt_lt (k := k) hi hj
  rw [← hc, len_at h1 (by omega), len_at h1 (by omega), rowsUp_told h, rowUp_told h]
theorem unpack_turn {k k' n : Nat} (l : List Int) (hk : k' ≠ 1) (hk1 : 1 ≤ k') (hk7 : k' ≤ 7) (h : ∀ a b, told k a b = told k' a b) (hc : ∀ i j, cellAt k (i, j) = cellAt k' (j, i)) (ht : ∀ i j, tells k i j = tells k' j i) : unpack k n l = unpack k' n l :=
  grid_ext fun i j hi hj => by
    rw [val_swap (k := k') hk hk1 hk7]
    unfold val
    rw [ht i j, ht j i, rank_turn h (hc i j) hi hj, rank_turn h (hc j i) hj hi]
theorem unpack_seven (n : Nat) (l : List Int) : unpack 7 n l = unpack 2 n l :=
  unpack_turn l (by omega) (by omega) (by omega) (fun a b => by rw [told_up (.inr rfl), told_up (.inl rfl)]) (fun i j => by simp [cellAt]) (fun i j => by simp [tells])
theorem unpack_six (n : Nat) (l : List Int) : unpack 6 n l = unpack 3 n l :=
  unpack_turn l (by omega) (by omega) (by omega) (fun a b => by rw [told_low (.inr rfl), told_low (.inl rfl)]) (fun i j => by simp [cellAt]) (fun i j => by simp [tells])
/-- A matrix of upper rows may be told in every layout but the one of all. -/
theorem upper_fits {k n : Nat} (l : List Int) : fits k n (unpack 2 n l) := by
  intro i j hi hj
  have h := unpack_fits (k := 2) (by omega) (by omega) l hi hj
  have h0 := unpack_fits (k := 2) (by omega) (by omega) l hi hi
  simp only [bad, Bool.or_eq_false_iff] at h h0
  have e1 : cell (unpack 2 n l) n i j = cell (unpack 2 n l) n j i := by simpa using h.1
  have e2 : cell (unpack 2 n l) n i i = 0 := by have := h0.2; simp [tells] at this; exact this
  simp [bad, e1, e2]
theorem count_up (n : Nat) : count 4 n = count 2 n + n := by
  have h1 := tri_half n
  have h2 := tri_half' n
  simp only [count] at *
  simp
  rw [h1, h2, tri]

/-! Each place once. -/
/-- How many of the first s steps stand at place x, mirrored ones once. -/
def hits (k n s x : Nat) : Nat := ((pairs n).take s).countP fun p => (decide (p.1 ≤ p.2) || decide (k = 1)) && decide (index k n p.1 p.2 = (x : Int))
theorem hits_zero (k n x : Nat) : hits k n 0 x = 0 := by simp [hits]
theorem hits_next {k n a b x : Nat} (ha : a < n) (hb : b < n) :
    hits k n (a * n + b + 1) x = hits k n (a * n + b) x + if ((decide (a ≤ b) || decide (k = 1)) && decide (index k n a b = (x : Int))) = true then 1 else 0 := by
  unfold hits
  rw [List.take_add_one, pairs_get ha hb, Option.toList_some, List.countP_append, List.countP_singleton]
theorem countP_one {α : Type} {l : List α} {P : α → Bool} {x : α} (hl : l.Nodup) (hx : x ∈ l) (hP : P x = true) (hu : ∀ y ∈ l, P y = true → y = x) : l.countP P = 1 := by
  induction l with
  | nil => cases hx
  | cons y r ih =>
    rw [List.nodup_cons] at hl
    rcases List.mem_cons.1 hx with rfl | hx'
    · rw [List.countP_cons_of_pos hP]
      have : r.countP P = 0 := by
        rw [List.countP_eq_zero]
        intro z hz hPz
        exact hl.1 (hu z (List.mem_cons_of_mem _ hz) hPz ▸ hz)
      omega
    · have hy : ¬ P y = true := fun h => hl.1 (hu y (List.mem_cons_self ..) h ▸ hx')
      rw [List.countP_cons_of_neg hy]
      exact ih hl.2 hx' fun z hz h => hu z (List.mem_cons_of_mem _ hz) h
theorem index_told {k n i j : Nat} (h : tells k i j = true) : index k n i j = (rank k n i j : Int) := by unfold index; rw [if_pos h]
theorem hits_all {k n x : Nat} (hk1 : 1 ≤ k) (hk7 : k ≤ 7) (hx : x < (places k n).length) : hits k n (n * n) x = 1 := by
  obtain ⟨p, q, hp, hq, ht, hr⟩ := rank_all hx
  have hI : index k n p q = (x : Int) := by rw [index_told ht, hr]
  unfold hits
  rw [List.take_of_length_le (by rw [pairs_length]; exact Nat.le_refl _)]
  have uniq : ∀ a b, a < n → b < n → index k n a b = (x : Int) → (a = p ∧ b = q) ∨ (k ≠ 1 ∧ a = q ∧ b = p) := by
    intro a b ha hb h
    unfold index at h
    by_cases h1 : tells k a b = true
    · rw [if_pos h1] at h
      exact .inl (rank_inj ha hb hp hq h1 ht (by omega))
    · rw [if_neg h1] at h
      have hk : k ≠ 1 := fun e => h1 (by rw [e]; exact tells_full a b)
      by_cases h2 : tells k b a = true
      · rw [if_pos h2] at h
        have := rank_inj hb ha hp hq h2 ht (by omega)
        exact .inr ⟨hk, this.2, this.1⟩
      · rw [if_neg h2] at h; omega
  by_cases hk : k = 1
  · refine countP_one (x := (p, q)) (pairs_nodup n) (mem_pairs.2 ⟨hp, hq⟩) (by simp [hk]; rw [← hk]; exact hI) ?_
    rintro ⟨a, b⟩ hm h
    have hab := mem_pairs.1 hm
    simp only [Bool.and_eq_true, decide_eq_true_eq] at h
    rcases uniq a b hab.1 hab.2 h.2 with ⟨rfl, rfl⟩ | ⟨h3, _⟩
    · rfl
    · exact absurd hk h3
  · by_cases hpq : p ≤ q
    · refine countP_one (x := (p, q)) (pairs_nodup n) (mem_pairs.2 ⟨hp, hq⟩) (by simp [hpq, hI]) ?_
      rintro ⟨a, b⟩ hm h
      have hab := mem_pairs.1 hm
      simp only [Bool.and_eq_true, Bool.or_eq_true, decide_eq_true_eq] at h
      rcases uniq a b hab.1 hab.2 h.2 with ⟨rfl, rfl⟩ | ⟨_, rfl, rfl⟩
      · rfl
      · have : a = b := by omega
        subst this; rfl
    · refine countP_one (x := (q, p)) (pairs_nodup n) (mem_pairs.2 ⟨hq, hp⟩) (by simp [index_swap hk hk1 hk7, hI]; exact .inl (by omega)) ?_
      rintro ⟨a, b⟩ hm h
      have hab := mem_pairs.1 hm
      simp only [Bool.and_eq_true, Bool.or_eq_true, decide_eq_true_eq] at h
      rcases uniq a b hab.1 hab.2 h.2 with ⟨rfl, rfl⟩ | ⟨_, rfl, rfl⟩
      · omega
      · rfl
#print axioms pack_unpack
#print axioms unpack_pack
#print axioms matUpto_told
#print axioms upper_fits
#print axioms hits_all
end Go.Layout
/- The document's own answers for layer 7 on places: may, tells, row, column, at, Index, Count. Conditions: where a layout is asked of, that it is one. -/
namespace Go.Layout
def mayB (k n : Int) : Bool := (decide (1 ≤ k) && decide (k ≤ 7)) && (decide (1 ≤ n) && decide (n ≤ 400))
theorem mayB_true {k n : Int} (h : mayB k n = true) : (1 ≤ k ∧ k ≤ 7) ∧ 1 ≤ n ∧ n ≤ 400 := by simpa [mayB] using h
theorem mayB_nat {k n : Nat} (h1 : 1 ≤ k) (h2 : k ≤ 7) (h3 : 1 ≤ n) (h4 : n ≤ 400) : mayB k n = true := by simp [mayB]; omega
theorem rowUp_le (k a b : Nat) : rowUp k a b ≤ b := by
  induction b with
  | zero => exact Nat.le_refl _
  | succ b ih => rw [rowUp]; split <;> omega
theorem rowsUp_le (k n a : Nat) : rowsUp k n a ≤ a * n := by
  induction a with
  | zero => simp [rowsUp]
  | succ a ih => have := rowUp_le k a n; rw [rowsUp, Nat.add_mul]; omega
theorem told_row {k a b : Nat} (hk : k ≠ 6) (hk2 : k ≠ 7) : told k a b = tells k a b := by simp [told, cellAt, hk, hk2]
theorem told_col {k a b : Nat} (hk : k = 6 ∨ k = 7) : told k a b = tells k b a := by simp [told, cellAt, hk]
theorem rank_row {k n i j : Nat} (hk : k ≠ 6) (hk2 : k ≠ 7) (hi : i < n) (hj : j < n) : rank k n i j = rowsUp k n i + rowUp k i j := by
  unfold rank
  have : cellAt k (i, j) = (i, j) := by simp [cellAt, hk, hk2]
  rw [this, len_at hi (by omega)]
theorem rank_col {k n i j : Nat} (hk : k = 6 ∨ k = 7) (hi : i < n) (hj : j < n) : rank k n i j = rowsUp k n j + rowUp k j i := by
  unfold rank
  have : cellAt k (i, j) = (j, i) := by simp [cellAt, hk]
  rw [this, len_at hj (by omega)]
end Go.Layout
namespace Go.Proofs
open Go.RowKit Go.Shelf Go.Layout
attribute [local go_sem] Oper.semAt_some

theorem lret_is {a b : Bool} (h : a = b) : Ending.returned (.bool a) = .returned (.bool b) := by rw [h]
theorem lret_num {a b : Int} (h : a = b) : Ending.returned (.int .i64 a) = .returned (.int .i64 b) := by rw [h]



end Go.Proofs
/- Slices of ints: what they hold; the document's own Ints of layer 7. Conditions: at most two million numbers. -/
namespace Go.Proofs
open Go.RowKit Go.Shelf Go.Layout
attribute [local go_sem] Oper.semAt_some

/-- The cells of a list's numbers, from an address on. -/
def IntAt (W : World) (b off : Nat) (l : List Int) : Prop := b < W.heap.size ∧ ∀ i x, l[i]? = some x → W.cell? ⟨b, off + i, none⟩ = some (.int .i64 x)
/-- A slice that reads as l. -/
def HasInts (W : World) (v : Value) (l : List Int) : Prop := (l = [] ∧ ∃ ao cap, v = .slice ao 0 cap) ∨ ∃ b off cap, v = .slice (some ⟨b, off, none⟩) l.length cap ∧ l.length ≤ cap ∧ cap ≤ maxLen ∧ IntAt W b off l
theorem IntAt.below {B b off : Nat} {W W' : World} {l : List Int} (h : IntAt W b off l) (hb : Below B W W') (hlt : b < B) : IntAt W' b off l :=
  ⟨Nat.lt_of_lt_of_le h.1 hb.size, fun i x hi => (hb.cell (p := ⟨b, off + i, none⟩) hlt).trans (h.2 i x hi)⟩
theorem IntAt.next {b off : Nat} {W W' : World} {l : List Int} (h : IntAt W b off l) (hb : Below W.heap.size W W') : IntAt W' b off l := h.below hb h.1
theorem HasInts.next {W W' : World} {v : Value} {l : List Int} (h : HasInts W v l) (hb : Below W.heap.size W W') : HasInts W' v l := by
  rcases h with h | ⟨b, off, cap, h1, h2, h3, h4⟩
  · exact .inl h
  · exact .inr ⟨b, off, cap, h1, h2, h3, h4.next hb⟩
theorem HasInts.nil (W : World) : HasInts W (.slice none 0 0) [] := .inl ⟨rfl, none, 0, rfl⟩
theorem HasInts.len {W : World} {v : Value} {l : List Int} (h : HasInts W v l) : ∃ ao cap, v = .slice ao l.length cap := by
  rcases h with ⟨rfl, ao, cap, rfl⟩ | ⟨b, off, cap, rfl, _⟩
  · exact ⟨ao, cap, rfl⟩
  · exact ⟨_, cap, rfl⟩
def intV (x : Int) : Value := .int .i64 x
theorem hasInts_of_owns {W : World} {base : Nat} {e : TypeId} {v : Value} {l : List Int} (h : W.ownsRow base e 1 v l.length (l.map intV)) : HasInts W v l := by
  rcases h.2 with ⟨rfl, h0⟩ | ⟨g, cap, cur, rfl, h1, h2, h3, h4, _⟩
  · exact .inl ⟨List.eq_nil_of_length_eq_zero h0, none, 0, rfl⟩
  · refine .inr ⟨g, 0, cap, rfl, h3, h4, (Array.getElem?_eq_some_iff.1 h2).1, fun i x hi => ?_⟩
    have hlt : i < l.length := (List.getElem?_eq_some_iff.1 hi).1
    rw [Nat.zero_add, World.ownsRow.cellAt h i (by omega)]
    simp [hi, intV]

theorem lbelow_drewN {B : Nat} {a w : World} (h : Below B a w) (n : Nat) : Below B a (w.drewN n) := ⟨h.os, h.tape, h.output, h.size, h.block⟩
theorem take_same {l r : List Int} {k : Nat} {x y : Int} (hl : l[k]? = some x) (hr : r[k]? = some y) (h : l.take k = r.take k) : l.take (k + 1) = r.take (k + 1) ↔ x = y := by
  rw [List.take_add_one, List.take_add_one, hl, hr, h]
  simp
theorem ne_at {l r : List Int} {k : Nat} {x y : Int} (hl : l[k]? = some x) (hr : r[k]? = some y) (h : x ≠ y) : l ≠ r := fun e => h (by rw [e, hr] at hl; exact (Option.some.inj hl).symm)

set_option maxRecDepth 100000 in
set_option maxHeartbeats 1000000 in
theorem Try.RInts_some (b off cap b' off' cap' : Nat) (l r : List Int) (w : World) (hl : l.length ≤ 2000000) (he : l.length = r.length) (hv : IntAt w b off l) (hu : IntAt w b' off' r) :
    Calls Try.prog 22 #[.slice (some ⟨b, off, none⟩) l.length cap, .slice (some ⟨b', off', none⟩) r.length cap'] w fun e w' => e = .returned (.bool (decide (l = r))) ∧ Below w.heap.size w w' := by
  have HV := Lib.hid hv
  have HU := Lib.hid hu
  rw [← he]
  obtain ⟨n, hn⟩ : ∃ n, l.length = n := ⟨_, rfl⟩
  rw [hn] at hl he ⊢
  have HN := Lib.hid hn
  have HE := Lib.hid he
  clear hn he hv hu
  go_enter Try.func22, Try.ntmps22
  go_wp2
  go_loopw [5] (fun i wr => ∃ k : Nat, k ≤ n ∧ i = .int .i64 (k : Int) ∧ Hid (l.take k = r.take k) ∧ Below w.heap.size w wr) (fun i _ => n - (intOf i).toNat)
  case atStart => exact ⟨0, Nat.zero_le _, rfl, rfl, Below.refl _ _⟩
  case round =>
    obtain ⟨k, hk, rfl, hT, hB⟩ := hrel
    by_cases hlt : k < n
    · obtain ⟨x, hx⟩ : ∃ x, l[k]? = some x := ⟨_, List.getElem?_eq_getElem (by have := HN.out; omega)⟩
      obtain ⟨y, hy⟩ : ∃ y, r[k]? = some y := ⟨_, List.getElem?_eq_getElem (by have := HE.out; omega)⟩
      have x0 := (hB.cell (p := ⟨b, off + k, none⟩) HV.out.1).trans (HV.out.2 k x hx)
      have y0 := (hB.cell (p := ⟨b', off' + k, none⟩) HU.out.1).trans (HU.out.2 k y hy)
      have hki : (k : Int) < (n : Int) := by omega
      by_cases hxy : x = y
      · subst hxy
        have d : (x != x) = false := bne_self_eq_false x
        have HT := Lib.hid ((take_same hx hy hT.out).2 rfl)
        clear hx hy hT
        go_wp2
        go_quiet (fail)
        go_wp2
        go_roundw
        case rel => exact ⟨k + 1, by omega, by go_num, HT, lbelow_drewN hB _⟩
        case measure => simp [intOf]; omega
      · have d : (x != y) = true := bne_iff_ne.2 hxy
        have HF := Lib.hid (decide_eq_false (ne_at hx hy hxy))
        clear hx hy hT hxy
        go_wp2
        go_quiet (fail)
        go_wp2
        go_ret
        exact ⟨lret_is HF.out.symm, lbelow_drewN hB _⟩
    · obtain rfl : k = n := by omega
      have HF : Hid (decide (l = r) = true) := by
        unfold Hid
        have h := hT.out
        rw [List.take_of_length_le (by have := HN.out; omega), List.take_of_length_le (by have := HE.out; omega)] at h
        exact decide_eq_true h
      go_wp2
      go_ret
      exact ⟨lret_is HF.out.symm, hB⟩

set_option maxRecDepth 100000 in
theorem Try.RInts_far (ao ao' : Option Addr) (n n' cap cap' : Nat) (w : World) (h : n ≠ n') :
    Calls Try.prog 22 #[.slice ao n cap, .slice ao' n' cap'] w fun e w' => e = .returned (.bool false) ∧ w' = w := by
  have d : ((n : Int) != (n' : Int)) = true := bne_iff_ne.2 (by omega)
  go_enter Try.func22, Try.ntmps22
  go_wp2
  go_ret
  exact ⟨rfl, rfl⟩
set_option maxRecDepth 100000 in
theorem Try.RInts_nil (ao ao' : Option Addr) (cap cap' : Nat) (w : World) :
    Calls Try.prog 22 #[.slice ao 0 cap, .slice ao' 0 cap'] w fun e w' => e = .returned (.bool true) ∧ w' = w := by
  go_enter Try.func22, Try.ntmps22
  go_wp2
  go_loop [5] (fun i => i = .int .i64 0) (fun _ => 0)
  case atStart => rfl
  case round =>
    obtain rfl := hrel
    go_wp2
    go_ret
    exact ⟨rfl, rfl⟩
theorem Try.RInts_calls (v u : Value) (l r : List Int) (w : World) (hl : l.length ≤ 2000000) (hv : HasInts w v l) (hu : HasInts w u r) :
    Calls Try.prog 22 #[v, u] w fun e w' => e = .returned (.bool (decide (l = r))) ∧ Below w.heap.size w w' := by
  by_cases he : l.length = r.length
  · rcases hv with ⟨rfl, ao, cap, rfl⟩ | ⟨b, off, cap, rfl, _, _, hv⟩
    · have hr : r = [] := List.eq_nil_of_length_eq_zero (by simpa using he.symm)
      subst hr
      obtain ⟨ao', cap', rfl⟩ := hu.len
      exact (Try.RInts_nil ao ao' cap cap' w).mono fun e w' ⟨h1, h2⟩ => ⟨by rw [h1]; rfl, h2 ▸ Below.refl _ _⟩
    · rcases hu with ⟨rfl, ao', cap', rfl⟩ | ⟨b', off', cap', rfl, _, _, hu⟩
      · have hr : l = [] := List.eq_nil_of_length_eq_zero (by simpa using he)
        subst hr
        exact (Try.RInts_nil _ ao' cap cap' w).mono fun e w' ⟨h1, h2⟩ => ⟨by rw [h1]; rfl, h2 ▸ Below.refl _ _⟩
      · exact Try.RInts_some b off cap b' off' cap' l r w hl he hv hu
  · obtain ⟨ao, cap, rfl⟩ := hv.len
    obtain ⟨ao', cap', rfl⟩ := hu.len
    exact (Try.RInts_far ao ao' _ _ cap cap' w he).mono fun e w' ⟨h1, h2⟩ => ⟨by rw [h1, decide_eq_false (fun e => he (by rw [e]))], h2 ▸ Below.refl _ _⟩
#print axioms Try.RInts_calls
end Go.Proofs
/- Slices of routes: what they hold. No program. -/
namespace Go.Proofs
open Go.RowKit Go.Plans
/-- A slice of slices of ints that read as rr, from an address on. -/
def RtsAt (W : World) (b off : Nat) (rr : Rts) : Prop := b < W.heap.size ∧ ∀ i l, rr[i]? = some l → ∃ v, W.cell? ⟨b, off + i, none⟩ = some v ∧ HasInts W v l
def HasRts (W : World) (v : Value) (rr : Rts) : Prop := (rr = [] ∧ ∃ ao cap, v = .slice ao 0 cap) ∨ ∃ b off cap, v = .slice (some ⟨b, off, none⟩) rr.length cap ∧ rr.length ≤ cap ∧ cap ≤ maxLen ∧ RtsAt W b off rr
/-- A plan whose routes read as rr. -/
def planV (v : Value) : Value := .agg #[v]
theorem RtsAt.next {b off : Nat} {W W' : World} {rr : Rts} (h : RtsAt W b off rr) (hb : Below W.heap.size W W') : RtsAt W' b off rr := by
  refine ⟨Nat.lt_of_lt_of_le h.1 hb.size, fun i l hi => ?_⟩
  obtain ⟨v, h1, h2⟩ := h.2 i l hi
  exact ⟨v, (hb.cell (p := ⟨b, off + i, none⟩) h.1).trans h1, h2.next hb⟩
theorem HasRts.next {W W' : World} {v : Value} {rr : Rts} (h : HasRts W v rr) (hb : Below W.heap.size W W') : HasRts W' v rr := by
  rcases h with h | ⟨b, off, cap, h1, h2, h3, h4⟩
  · exact .inl h
  · exact .inr ⟨b, off, cap, h1, h2, h3, h4.next hb⟩
theorem HasRts.len {W : World} {v : Value} {rr : Rts} (h : HasRts W v rr) : ∃ ao cap, v = .slice ao rr.length cap := by
  rcases h with ⟨rfl, ao, cap, rfl⟩ | ⟨b, off, cap, rfl, _⟩
  · exact ⟨ao, cap, rfl⟩
  · exact ⟨_, cap, rfl⟩
/-- A route in it, in any later world: its cell, and what it reads as. -/
theorem HasRts.get {B : Nat} {W W' : World} {v : Value} {rr : Rts} {i : Nat} {l : List Int} (h : HasRts W v rr) (hi : rr[i]? = some l) (hB : W.heap.size ≤ B) (hb : Below B W W') : ∃ b off cap u, v = .slice (some ⟨b, off, none⟩) rr.length cap ∧ b < B ∧ b < W'.heap.size ∧ W'.cell? ⟨b, off + i, none⟩ = some u ∧ HasInts W' u l := by
  rcases h with ⟨rfl, _⟩ | ⟨b, off, cap, h1, _, _, h4⟩
  · simp at hi
  · obtain ⟨u, h5, h6⟩ := h4.2 i l hi
    have hlt : b < B := Nat.lt_of_lt_of_le h4.1 hB
    refine ⟨b, off, cap, u, h1, hlt, Nat.lt_of_lt_of_le h4.1 hb.size, (hb.cell (p := ⟨b, off + i, none⟩) hlt).trans h5, h6.next (hb.mono hB)⟩
/-- A box of one value, of a call's own: what it holds, and that it stands. -/
def BoxAt (W : World) (B : Nat) (v : Value) : Prop := W.cell? ⟨B, 0, none⟩ = some v ∧ B < W.heap.size
theorem BoxAt.new (w : World) (v : Value) (t : TypeId) : BoxAt (w.alloc (.cells #[v] t)) w.heap.size v := by
  have e := World.alloc_heap_new w (.cells #[v] t)
  refine ⟨?_, by simp⟩
  unfold World.cell?; simp only [e]; rfl
theorem BoxAt.next {W W' : World} {B : Nat} {v : Value} (h : BoxAt W B v) (hb : Below W.heap.size W W') : BoxAt W' B v := ⟨(hb.cell (p := ⟨B, 0, none⟩) h.2).trans h.1, Nat.lt_of_lt_of_le h.2 hb.size⟩
theorem many_take {rr : Rts} {k : Nat} {l : List Int} (h : rr[k]? = some l) : many (rr.take (k + 1)) = many (rr.take k) + l.length := by
  rw [List.take_add_one, h, many_append]; simp [many]
theorem many_take_le (rr : Rts) (k : Nat) : many (rr.take k) ≤ many rr := by
  have h := many_append (rr.take k) (rr.drop k)
  rw [List.take_append_drop] at h; omega
end Go.Proofs
/- Plain facts on plans, told stop by stop; no program. -/
namespace Go.Plans
open Go.Proofs
theorem pflat_split {rr : Rts} {i : Nat} {l : List Int} (h : rr[i]? = some l) : rr = rr.take i ++ l :: rr.drop (i + 1) := by
  obtain ⟨hi, he⟩ := List.getElem?_eq_some_iff.1 h
  rw [← he, ← List.drop_eq_getElem_cons hi, List.take_append_drop]
theorem pflat_get {rr : Rts} {i j : Nat} {l : List Int} {s : Int} (h : rr[i]? = some l) (hj : l[j]? = some s) : rr.flatten[many (rr.take i) + j]? = some s := by
  have e := congrArg List.flatten (pflat_split h)
  rw [List.flatten_append, List.flatten_cons] at e
  rw [e, List.getElem?_append_right (by rw [← many_flat]; omega), ← many_flat, Nat.add_sub_cancel_left, List.getElem?_append_left (List.getElem?_eq_some_iff.1 hj).1, hj]
theorem pflat_take {rr : Rts} {i j : Nat} {l : List Int} (h : rr[i]? = some l) (hj : j ≤ l.length) : rr.flatten.take (many (rr.take i) + j) = (rr.take i).flatten ++ l.take j := by
  have e := congrArg List.flatten (pflat_split h)
  rw [List.flatten_append, List.flatten_cons] at e
  rw [e, List.take_append, ← many_flat, Nat.add_sub_cancel_left, List.take_of_length_le (by rw [← many_flat]; omega), List.take_append_of_le_length hj]
theorem place_here {s : Int} : ∀ {l : List Int} {j : Nat}, l[j]? = some s → s ∉ l.take j → place s l = some j
  | [], j, h, _ => by simp at h
  | a :: l, 0, h, _ => by
    have : a = s := by simpa using h
    simp [place, this]
  | a :: l, j + 1, h, hn => by
    rw [List.take_succ_cons, List.mem_cons, not_or] at hn
    unfold place
    rw [if_neg (fun e => hn.1 e.symm), place_here (l := l) (j := j) (by simpa using h) hn.2]
    rfl
theorem findR_flat {s : Int} {rr : Rts} {i j : Nat} {l : List Int} (h : rr[i]? = some l) (hj : l[j]? = some s) (hn : s ∉ rr.flatten.take (many (rr.take i) + j)) : findR s rr = some (i, j) := by
  have hjl : j ≤ l.length := Nat.le_of_lt (List.getElem?_eq_some_iff.1 hj).1
  rw [pflat_take h hjl, List.mem_append, not_or] at hn
  have hi := (List.getElem?_eq_some_iff.1 h).1
  rw [pflat_split h, findR_append, findR_none.2 hn.1, findR_cons, place_here hj hn.2]
  simp
  omega
theorem stops_flat (rr : Rts) : stopsIn rr = rr.flatten.all fun s => decide (0 ≤ s) && decide (s ≤ 399) := by
  unfold stopsIn
  rw [List.all_flatten]
/-- How often each number below n is in a list. -/
def cntL (l : List Int) (n : Nat) : List Int := (List.range n).map fun (c : Nat) => (l.count (c : Int) : Int)
theorem cntL_flat (rr : Rts) (n : Nat) : cntL rr.flatten n = countL rr n := by
  unfold cntL countL
  apply List.map_congr_left
  intro c _
  rw [countR_flat]
theorem cntL_length (l : List Int) (n : Nat) : (cntL l n).length = n := by simp [cntL]
theorem cntL_nil (n : Nat) : cntL [] n = List.replicate n 0 := by
  unfold cntL
  rw [List.eq_replicate_iff]
  exact ⟨by simp, fun b hb => by obtain ⟨c, _, rfl⟩ := List.mem_map.1 hb; simp⟩
theorem cntL_get (l : List Int) {n c : Nat} (h : c < n) : (cntL l n)[c]? = some (l.count (c : Int) : Int) := by
  simp [cntL, h]
theorem cntL_out (l : List Int) (n : Nat) {s : Int} (h : ¬ (0 ≤ s ∧ s < n)) : cntL (l ++ [s]) n = cntL l n := by
  unfold cntL
  apply List.map_congr_left
  intro c hc
  rw [List.mem_range] at hc
  have : ([s] : List Int).count (c : Int) = 0 := by
    rw [List.count_singleton, if_neg]
    intro e
    have := eq_of_beq e
    omega
  rw [List.count_append, this]; rfl
theorem cntL_in (l : List Int) (n : Nat) {c : Nat} (h : c < n) : cntL (l ++ [(c : Int)]) n = (cntL l n).set c ((l.count (c : Int) : Int) + 1) := by
  apply List.ext_getElem?
  intro k
  by_cases hk : k < n
  · rw [cntL_get _ hk, List.getElem?_set, cntL_length]
    by_cases e : c = k
    · subst e
      rw [if_pos rfl, if_pos h, List.count_append, List.count_singleton]
      simp
    · rw [if_neg e, cntL_get _ hk, List.count_append, List.count_singleton, if_neg]
      · rfl
      · intro e2
        have := eq_of_beq e2
        omega
  · rw [List.getElem?_eq_none (by rw [cntL_length]; omega), List.getElem?_eq_none (by rw [List.length_set, cntL_length]; omega)]
theorem ptake_snoc {l : List Int} {k : Nat} {s : Int} (h : l[k]? = some s) : l.take (k + 1) = l.take k ++ [s] := by rw [List.take_add_one, h]; rfl
#print axioms findR_flat
#print axioms cntL_in
end Go.Plans
/- Plain facts on roots of whole numbers, rounded; no program. Guesses at a root from above, the last of which is the root rounded down; quotients of roots by what they are compared with. -/
namespace Go.Root

/-- q is the root of n, rounded down. -/
def IsRoot (q n : Nat) : Prop := q * q ≤ n ∧ n < (q + 1) * (q + 1)

theorem sq_le {a b : Nat} (h : a ≤ b) : a * a ≤ b * b := Nat.mul_le_mul h h
theorem sq_lt {a b : Nat} (h : a < b) : a * a < b * b := Nat.mul_self_lt_mul_self h
theorem le_of_sq {a b : Nat} (h : a * a ≤ b * b) : a ≤ b := Nat.mul_self_le_mul_self_iff.1 h
theorem lt_of_sq {a b : Nat} (h : a * a < b * b) : a < b := Nat.mul_self_lt_mul_self_iff.1 h

theorem IsRoot.le_iff {q n : Nat} (h : IsRoot q n) (a : Nat) : a ≤ q ↔ a * a ≤ n :=
  ⟨fun g => Nat.le_trans (sq_le g) h.1, fun g => by have := lt_of_sq (Nat.lt_of_le_of_lt g h.2); omega⟩
theorem IsRoot.unique {q r n : Nat} (h : IsRoot q n) (k : IsRoot r n) : q = r :=
  Nat.le_antisymm ((k.le_iff q).2 h.1) ((h.le_iff r).2 k.1)

/-- The guesses from g on; f: how many more there may be. -/
def guessed (n : Nat) : Nat → Nat → List Nat
  | 0, _ => []
  | f + 1, g => g :: if n / g < g then guessed n f ((g + n / g) / 2) else []
/-- The first guess, and all of them. -/
def first (n : Nat) : Nat := 2 ^ ((Lib.bitLen n + 1) / 2)
def guesses (n : Nat) : List Nat := if n = 0 then [] else guessed n (first n) (first n)
/-- The root, rounded down. -/
def rt (n : Nat) : Nat := (guesses n).getLast?.getD 0

theorem half_lt {n g : Nat} (h : n / g < g) : (g + n / g) / 2 < g := by omega
theorem half_ge {n g r : Nat} (hr : r * r ≤ n) (hg : 0 < g) : r ≤ (g + n / g) / 2 := by
  rcases Nat.lt_or_ge g (2 * r) with h | h
  · have h1 : g * (2 * r - g) ≤ n := by
      refine Nat.le_trans ?_ hr
      obtain ⟨k, hk⟩ : ∃ k, 2 * r = g + k := ⟨2 * r - g, by omega⟩
      rw [hk, Nat.add_sub_cancel_left]
      have h2 : (g + k) * (g + k) = 4 * (r * r) := by rw [← hk, Nat.mul_mul_mul_comm]
      have h3 : 4 * (g * k) ≤ (g + k) * (g + k) := by
        rcases Nat.le_total g k with h4 | h4
        · obtain ⟨c, rfl⟩ := Nat.exists_eq_add_of_le h4
          have e1 : 4 * (g * (g + c)) = 4 * (g * g) + 4 * (g * c) := by rw [Nat.mul_add, Nat.mul_add]
          have e2 : (g + (g + c)) * (g + (g + c)) = 4 * (g * g) + 4 * (g * c) + c * c := by
            simp only [Nat.mul_add, Nat.add_mul, Nat.mul_comm c g]; omega
          omega
        · obtain ⟨c, rfl⟩ := Nat.exists_eq_add_of_le h4
          have e1 : 4 * ((k + c) * k) = 4 * (k * k) + 4 * (k * c) := by rw [Nat.add_mul, Nat.mul_add, Nat.mul_comm c k]
          have e2 : (k + c + k) * (k + c + k) = 4 * (k * k) + 4 * (k * c) + c * c := by
            simp only [Nat.mul_add, Nat.add_mul, Nat.mul_comm c k]; omega
          omega
      omega
    have h2 : 2 * r - g ≤ n / g := (Nat.le_div_iff_mul_le hg).2 (by rw [Nat.mul_comm]; exact h1)
    omega
  · generalize n / g = q
    omega
theorem stop_eq {n g r : Nat} (hr : IsRoot r n) (hg : 0 < g) (hge : r ≤ g) (h : ¬ n / g < g) : g = r := by
  have h1 : g ≤ n / g := by omega
  have h2 := (Nat.le_div_iff_mul_le hg).1 h1
  exact Nat.le_antisymm ((hr.le_iff g).2 h2) hge
theorem root_pos {r n : Nat} (h : IsRoot r n) (hn : 0 < n) : 0 < r := (h.le_iff 1).2 (by omega)

theorem guessed_ne {n f g : Nat} (hf : 0 < f) : guessed n f g ≠ [] := by
  obtain ⟨f, rfl⟩ : ∃ k, f = k + 1 := ⟨f - 1, by omega⟩
  simp [guessed]
theorem guessed_last {r n : Nat} (hr : IsRoot r n) (hn : 0 < n) : ∀ (f g : Nat), r ≤ g → g ≤ f → (guessed n f g).getLast? = some r := by
  intro f
  induction f with
  | zero => intro g h1 h2; have := root_pos hr hn; omega
  | succ f ih =>
    intro g h1 h2
    have hg : 0 < g := Nat.lt_of_lt_of_le (root_pos hr hn) h1
    simp only [guessed]
    by_cases h : n / g < g
    · have h3 := half_ge (n := n) (g := g) hr.1 hg
      have h4 := half_lt h
      have h5 := ih _ h3 (by omega)
      have h6 : guessed n f ((g + n / g) / 2) ≠ [] := guessed_ne (by have := root_pos hr hn; omega)
      rw [if_pos h, List.getLast?_cons]
      simp [h5]
    · rw [if_neg h, stop_eq hr hg h1 h]; rfl

theorem bitLen_above {n : Nat} (h0 : 0 < n) (h : n < 2 ^ 64) : n < 2 ^ Lib.bitLen n := (Lib.bitLenAux_bounds 64 n h (by omega)).2.2
theorem bitLen_most {n : Nat} (h : n ≤ 9223372036854775807) : Lib.bitLen n ≤ 63 := Lib.bitLen_le n 63 (by omega) (by omega)
theorem first_pos (n : Nat) : 0 < first n := Nat.two_pow_pos _
theorem first_le {n : Nat} (h : n ≤ 9223372036854775807) : first n ≤ 4294967296 := by
  have := bitLen_most h
  exact Nat.le_trans (Nat.pow_le_pow_right (by omega) (show (Lib.bitLen n + 1) / 2 ≤ 32 by omega)) (by decide)
theorem first_above {n : Nat} (h0 : 0 < n) (h : n < 2 ^ 64) : n < first n * first n := by
  refine Nat.lt_of_lt_of_le (bitLen_above h0 h) ?_
  rw [first, ← Nat.pow_add]
  exact Nat.pow_le_pow_right (by omega) (by omega)

theorem root_exists (n : Nat) : ∃ r, IsRoot r n := by
  induction n with
  | zero => exact ⟨0, by simp [IsRoot]⟩
  | succ n ih =>
    obtain ⟨r, h1, h2⟩ := ih
    by_cases h : n + 1 < (r + 1) * (r + 1)
    · exact ⟨r, by omega, h⟩
    · exact ⟨r + 1, by omega, Nat.lt_of_lt_of_le (show n + 1 < (r + 1) * (r + 1) + 1 by omega) (by have := sq_lt (show r + 1 < r + 1 + 1 by omega); omega)⟩
theorem rt_is {n : Nat} (h : n ≤ 9223372036854775807) : IsRoot (rt n) n := by
  obtain ⟨r, hr⟩ := root_exists n
  by_cases h0 : n = 0
  · subst h0; simp [rt, guesses, IsRoot]
  · have h1 : r ≤ first n := Nat.le_of_lt (lt_of_sq (Nat.lt_of_le_of_lt hr.1 (first_above (by omega) (by omega))))
    have := guessed_last hr (by omega) _ _ h1 (Nat.le_refl _)
    simpa [rt, guesses, h0, this] using hr

theorem rt_eq {n q : Nat} (h : n ≤ 9223372036854775807) (k : IsRoot q n) : rt n = q := (rt_is h).unique k
theorem le_rt {n : Nat} (h : n ≤ 9223372036854775807) (a : Nat) : a ≤ rt n ↔ a * a ≤ n := (rt_is h).le_iff a
theorem rt_lt {n : Nat} (h : n ≤ 9223372036854775807) (a : Nat) : rt n < a ↔ n < a * a := by
  have := le_rt h a; omega
theorem rt_most {n : Nat} (h : n ≤ 9223372036854775807) : rt n ≤ 3037000499 := by
  have := (rt_lt h 3037000500).2 (by omega); omega

/-- What the three quotients are. -/
def near (n d : Nat) : Nat := (rt (4 * n) / d + 1) / 2
def down (n m d : Nat) : Nat := rt (m * m * n) / d
def upto (a b : Nat) : Nat := (a + b - 1) / b
def ceiling (n : Nat) : Nat := if rt n * rt n < n then rt n + 1 else rt n
def ceil (n k d : Nat) : Nat := upto (ceiling (upto n k)) d

theorem upto_le {a b : Nat} (hb : 0 < b) (q : Nat) : upto a b ≤ q ↔ a ≤ q * b := by
  unfold upto
  rw [← Nat.lt_succ_iff, Nat.div_lt_iff_lt_mul hb, Nat.succ_mul]
  omega
theorem ceiling_le {n : Nat} (h : n ≤ 9223372036854775807) (q : Nat) : ceiling n ≤ q ↔ n ≤ q * q := by
  have h1 := rt_is h
  unfold ceiling
  have h2 := le_rt h (q + 1)
  have h3 := rt_lt h q
  have h4 := rt_lt h (q + 1)
  split
  · rename_i hlt
    constructor
    · intro g
      by_cases e : rt n + 1 = q
      · rw [← e]; exact Nat.le_of_lt h1.2
      · exact Nat.le_of_lt (h3.1 (by omega))
    · intro g
      have : ¬ q ≤ rt n := fun e => by have := sq_le e; omega
      omega
  · rename_i hge
    have he : n = rt n * rt n := by have := h1.1; omega
    constructor
    · intro g; rw [he]; exact sq_le g
    · intro g; rw [he] at g; exact le_of_sq g
theorem ceiling_most {n : Nat} (h : n ≤ 9000000000000000000) : ceiling n ≤ 3000000000 := (ceiling_le (by omega) _).2 (by omega)
theorem upto_most {a b c : Nat} (hb : 0 < b) (h : a ≤ c) : upto a b ≤ c := (upto_le hb c).2 (Nat.le_trans h (Nat.le_mul_of_pos_right c hb))

theorem le_near {n d : Nat} (hd : 0 < d) (h : 4 * n ≤ 9223372036854775807) (q : Nat) : q + 1 ≤ near n d ↔ (2 * q + 1) * d * ((2 * q + 1) * d) ≤ 4 * n := by
  rw [← le_rt h, ← Nat.le_div_iff_mul_le hd]
  unfold near
  omega
theorem le_down {n m d : Nat} (hd : 0 < d) (h : m * m * n ≤ 9223372036854775807) (q : Nat) : q ≤ down n m d ↔ q * d * (q * d) ≤ m * m * n := by
  rw [← le_rt h, ← Nat.le_div_iff_mul_le hd]
  rfl
theorem ceil_le {n k d : Nat} (hk : 0 < k) (hd : 0 < d) (h : n ≤ 9223372036854775807) (q : Nat) : ceil n k d ≤ q ↔ n ≤ k * (q * d * (q * d)) := by
  unfold ceil
  rw [upto_le hd, ceiling_le (upto_most hk h), upto_le hk, Nat.mul_comm]
#print axioms ceil_le
end Go.Root
/- More plain facts on roots and their quotients; no program: what they are at most, how they stand to each other, what is equal by what it is compared with, what rises. -/
namespace Go.Root
theorem rt_small {n : Nat} (h : n ≤ 80000000000000000) : rt n ≤ 282842713 := by
  have := (rt_lt (n := n) (by omega) 282842714).2 (by omega); omega
theorem down_le_near {n d : Nat} (hn : n ≤ 80000000000000000) (hd : 1 ≤ d) : down n 1 d ≤ near n d := by
  obtain h | ⟨q, h⟩ : down n 1 d = 0 ∨ ∃ q, down n 1 d = q + 1 := by
    cases hq : down n 1 d with
    | zero => exact .inl rfl
    | succ q => exact .inr ⟨q, rfl⟩
  · omega
  · rw [h, le_near hd (by omega)]
    have h1 := (le_down (n := n) (m := 1) hd (by omega) (q + 1)).1 (by omega)
    have h2 : (2 * q + 1) * d ≤ 2 * ((q + 1) * d) := by rw [← Nat.mul_assoc]; exact Nat.mul_le_mul_right d (by omega)
    have h3 := sq_le h2
    have h4 : 2 * ((q + 1) * d) * (2 * ((q + 1) * d)) = 4 * ((q + 1) * d * ((q + 1) * d)) := by rw [Nat.mul_mul_mul_comm]
    omega
theorem near_le_ceil {n d : Nat} (hn : n ≤ 80000000000000000) (hd : 1 ≤ d) : near n d ≤ ceil n 1 d := by
  obtain h | ⟨q, h⟩ : near n d = 0 ∨ ∃ q, near n d = q + 1 := by
    cases hq : near n d with
    | zero => exact .inl rfl
    | succ q => exact .inr ⟨q, rfl⟩
  · omega
  · have h1 := (le_near (n := n) hd (by omega) q).1 (by omega)
    have h2 : ¬ ceil n 1 d ≤ q := by
      rw [ceil_le (by omega) hd (by omega)]
      intro h3
      have h4 : 2 * (q * d) * (2 * (q * d)) = 4 * (q * d * (q * d)) := by rw [Nat.mul_mul_mul_comm]
      have h5 := le_of_sq (show (2 * q + 1) * d * ((2 * q + 1) * d) ≤ 2 * (q * d) * (2 * (q * d)) by omega)
      have h6 : (2 * q + 1) * d = 2 * (q * d) + d := by rw [Nat.add_mul, Nat.mul_assoc, Nat.one_mul]
      omega
    omega
theorem ceil_le_down {n d : Nat} (hn : n ≤ 80000000000000000) (hd : 1 ≤ d) : ceil n 1 d ≤ down n 1 d + 1 := by
  rw [ceil_le (by omega) hd (by omega)]
  have h1 := le_down (m := 1) hd (by omega) (down n 1 d + 1) (n := n)
  omega
theorem near_small {n d : Nat} (hn : n ≤ 80000000000000000) : near n d ≤ 600000000 := by
  have h1 : rt (4 * n) ≤ 565685425 := by
    have := (rt_lt (n := 4 * n) (by omega) 565685426).2 (by omega)
    omega
  have := Nat.div_le_self (rt (4 * n)) d
  unfold near
  omega
theorem down_small {n m d : Nat} (hn : m * m * n ≤ 8000000000000000000) : down n m d ≤ 3000000000 := by
  have h1 : rt (m * m * n) ≤ 2828427125 := by
    have := (rt_lt (n := m * m * n) (by omega) 2828427126).2 (by omega)
    omega
  have := Nat.div_le_self (rt (m * m * n)) d
  unfold down
  omega
theorem ceil_small {n k d : Nat} (hn : n ≤ 80000000000000000) (hk : 1 ≤ k) (hd : 1 ≤ d) : ceil n k d ≤ 300000000 := by
  rw [ceil_le hk hd (by omega)]
  have h1 : 300000000 * 1 ≤ 300000000 * d := Nat.mul_le_mul_left _ hd
  have h2 := sq_le h1
  have h3 := Nat.le_mul_of_pos_left (300000000 * d * (300000000 * d)) hk
  omega
theorem eq_of_le {a b : Nat} (h : ∀ q, q ≤ a ↔ q ≤ b) : a = b := Nat.le_antisymm ((h a).1 (Nat.le_refl _)) ((h b).2 (Nat.le_refl _))
theorem eq_of_next {a b : Nat} (h : ∀ q, q + 1 ≤ a ↔ q + 1 ≤ b) : a = b := eq_of_le fun q => by
  cases q with
  | zero => simp
  | succ q => exact h q
theorem eq_of_ge {a b : Nat} (h : ∀ q, a ≤ q ↔ b ≤ q) : a = b := Nat.le_antisymm ((h b).2 (Nat.le_refl _)) ((h a).1 (Nat.le_refl _))
theorem sq_le_iff {a b : Nat} : a * a ≤ b * b ↔ a ≤ b := ⟨le_of_sq, sq_le⟩
theorem sq_times (k x : Nat) : k * x * (k * x) = k * k * (x * x) := Nat.mul_mul_mul_comm k x k x

/-! Ten times as much. -/
theorem near_tens {n t : Nat} (hn : n ≤ 800000000000000) (ht : 1 ≤ t) : near (100 * n) (10 * t) = near n t := by
  refine eq_of_next fun q => ?_
  rw [le_near (by omega) (by omega), le_near ht (by omega), show (2 * q + 1) * (10 * t) = 10 * ((2 * q + 1) * t) from Nat.mul_left_comm _ _ _, sq_times]
  omega
theorem down_tens {n t : Nat} (hn : n ≤ 800000000000000) (ht : 1 ≤ t) : down (100 * n) 10 (10 * t) = down n 10 t := by
  refine eq_of_le fun q => ?_
  rw [le_down (by omega) (by omega), le_down ht (by omega), show q * (10 * t) = 10 * (q * t) from Nat.mul_left_comm _ _ _, sq_times]
  omega
theorem ceil_tens {n t : Nat} (hn : n ≤ 800000000000000) (ht : 1 ≤ t) : ceil (100 * n) 10 (10 * t) = ceil n 10 t := by
  refine eq_of_ge fun q => ?_
  rw [ceil_le (by omega) (by omega) (by omega), ceil_le (by omega) ht (by omega), show q * (10 * t) = 10 * (q * t) from Nat.mul_left_comm _ _ _, sq_times]
  omega
theorem down_tenth {n t : Nat} (hn : n ≤ 800000000000000) (ht : 1 ≤ t) : down n 10 (10 * t) = down n 1 t := by
  refine eq_of_le fun q => ?_
  rw [le_down (by omega) (by omega), le_down ht (by omega), show q * (10 * t) = 10 * (q * t) from Nat.mul_left_comm _ _ _, sq_times]
  omega

/-! Squares. -/
theorem rt_sq {a : Nat} (h : a * a ≤ 9223372036854775807) : rt (a * a) = a := by
  refine eq_of_le fun q => ?_
  rw [le_rt h]; exact sq_le_iff
theorem near_sq {a t : Nat} (h : a * t * (a * t) ≤ 2000000000000000000) (ht : 1 ≤ t) : near (a * t * (a * t)) t = a := by
  refine eq_of_next fun q => ?_
  rw [le_near ht (by omega), show 4 * (a * t * (a * t)) = 2 * (a * t) * (2 * (a * t)) from (sq_times 2 _).symm, sq_le_iff, ← Nat.mul_assoc, Nat.mul_le_mul_right_iff (by omega)]
  omega
theorem down_sq {a m t : Nat} (h : m * m * (a * t * (a * t)) ≤ 9223372036854775807) (ht : 1 ≤ t) : down (a * t * (a * t)) m t = m * a := by
  refine eq_of_le fun q => ?_
  rw [le_down ht h, ← sq_times, sq_le_iff, ← Nat.mul_assoc, Nat.mul_le_mul_right_iff (by omega)]
theorem ceil_sq {a t : Nat} (h : a * t * (a * t) ≤ 9223372036854775807) (ht : 1 ≤ t) : ceil (a * t * (a * t)) 1 t = a := by
  refine eq_of_ge fun q => ?_
  rw [ceil_le (by omega) ht h, Nat.one_mul, sq_le_iff, Nat.mul_le_mul_right_iff (by omega)]

/-! What rises. -/
theorem rt_mono {x y : Nat} (h : x ≤ y) (hy : y ≤ 9223372036854775807) : rt x ≤ rt y := by
  rw [le_rt hy]; exact Nat.le_trans (rt_is (by omega)).1 h
theorem near_mono {x y d : Nat} (h : x ≤ y) (hy : y ≤ 80000000000000000) : near x d ≤ near y d := by
  have := Nat.div_le_div_right (c := d) (rt_mono (x := 4 * x) (y := 4 * y) (by omega) (by omega))
  unfold near; omega
theorem down_mono {x y m d : Nat} (h : x ≤ y) (hy : m * m * y ≤ 9223372036854775807) : down x m d ≤ down y m d :=
  Nat.div_le_div_right (rt_mono (Nat.mul_le_mul_left _ h) hy)
theorem ceil_mono {x y k d : Nat} (h : x ≤ y) (hy : y ≤ 80000000000000000) (hk : 1 ≤ k) (hd : 1 ≤ d) : ceil x k d ≤ ceil y k d := by
  rw [ceil_le hk hd (by omega)]
  exact Nat.le_trans h ((ceil_le hk hd (by omega) _).1 (Nat.le_refl _))
theorem near_falls {n s t : Nat} (h : s ≤ t) (hs : 1 ≤ s) : near n t ≤ near n s := by
  have := Nat.div_le_div_left (a := rt (4 * n)) h hs
  unfold near; omega
theorem ceil_falls {n k s t : Nat} (h : s ≤ t) (hs : 1 ≤ s) (hk : 1 ≤ k) (hn : n ≤ 80000000000000000) : ceil n k t ≤ ceil n k s := by
  rw [ceil_le hk (by omega) (by omega)]
  exact Nat.le_trans ((ceil_le hk hs (by omega) _).1 (Nat.le_refl _)) (Nat.mul_le_mul_left _ (sq_le (Nat.mul_le_mul_left _ h)))
end Go.Root
/- Plain facts on distances, rounded; no program. x and y are the sides without their signs, t is ten to the scale. -/
namespace Go.Metric
open Go.Root

/-- The nearest whole number to a quotient. -/
def nst (n t : Nat) : Nat := (2 * n + t) / (2 * t)
/-- The distance of a kind. -/
def dist (kind t x y : Nat) : Nat :=
  if kind = 1 then near (x * x + y * y) t
  else if kind = 2 then ceil (x * x + y * y) 1 t
  else if kind = 3 then nst (x + y) t
  else if kind = 4 then max (nst x t) (nst y t)
  else if kind = 5 then ceil (x * x + y * y) 10 t
  else down (x * x + y * y) 10 t

theorem sum_most {x y : Nat} (hx : x ≤ 200000000) (hy : y ≤ 200000000) : x * x + y * y ≤ 80000000000000000 := by
  have h1 : x * x ≤ 40000000000000000 := sq_le hx
  have h2 : y * y ≤ 40000000000000000 := sq_le hy
  omega
theorem le_nst {n t : Nat} (ht : 1 ≤ t) (q : Nat) : q + 1 ≤ nst n t ↔ (2 * q + 1) * t ≤ 2 * n := by
  unfold nst
  rw [Nat.le_div_iff_mul_le (by omega)]
  have h1 : (q + 1) * (2 * t) = (2 * q + 1) * t + t := by rw [← Nat.mul_assoc, Nat.add_mul (2 * q) 1 t, Nat.one_mul, Nat.mul_comm (q + 1) 2, Nat.mul_add, Nat.mul_one, Nat.add_mul]; omega
  omega
theorem nst_near {x t : Nat} (ht : 1 ≤ t) (h : 4 * (x * x) ≤ 9223372036854775807) : nst x t = near (x * x) t := by
  refine eq_of_next fun q => ?_
  rw [le_nst ht, le_near ht h, show 4 * (x * x) = 2 * x * (2 * x) from (sq_times 2 x).symm, sq_le_iff]
theorem nst_one (n : Nat) : nst n 1 = n := by unfold nst; omega
theorem nst_zero {t : Nat} (ht : 1 ≤ t) : nst 0 t = 0 := by unfold nst; rw [Nat.mul_zero, Nat.zero_add]; exact Nat.div_eq_of_lt (by omega)
theorem nst_most {n t : Nat} (ht : 1 ≤ t) : nst n t ≤ n := by
  cases hq : nst n t with
  | zero => omega
  | succ q =>
    have h1 := (le_nst ht q).1 (by rw [hq]; exact Nat.le_refl _)
    have h2 : (2 * q + 1) * 1 ≤ (2 * q + 1) * t := Nat.mul_le_mul_left _ ht
    omega
theorem nst_tens {n t : Nat} (ht : 1 ≤ t) : nst (10 * n) (10 * t) = nst n t := by
  refine eq_of_next fun q => ?_
  rw [le_nst (by omega), le_nst ht, show (2 * q + 1) * (10 * t) = 10 * ((2 * q + 1) * t) from Nat.mul_left_comm _ _ _]
  omega
theorem near_zero {t : Nat} (ht : 1 ≤ t) : near 0 t = 0 := by
  have h := le_near (n := 0) ht (by omega) 0
  simp only [Nat.mul_zero, Nat.zero_add, Nat.one_mul] at h
  have h2 : 1 * 1 ≤ t * t := sq_le ht
  omega
theorem down_zero {m t : Nat} (ht : 1 ≤ t) : down 0 m t = 0 := by
  have h := le_down (n := 0) (m := m) ht (by simp) 1
  simp only [Nat.mul_zero, Nat.one_mul] at h
  have h2 : 1 * 1 ≤ t * t := sq_le ht
  omega
theorem ceil_tens' {n k t : Nat} (hn : n ≤ 800000000000000) (hk : 1 ≤ k) (ht : 1 ≤ t) : ceil (100 * n) k (10 * t) = ceil n k t := by
  refine eq_of_ge fun q => ?_
  rw [ceil_le hk (by omega) (by omega), ceil_le hk ht (by omega), show q * (10 * t) = 10 * (q * t) from Nat.mul_left_comm _ _ _, sq_times, ← Nat.mul_assoc, Nat.mul_comm k (10 * 10), Nat.mul_assoc]
  generalize k * (q * t * (q * t)) = X
  omega
theorem ceil_none {k t : Nat} (hk : 1 ≤ k) (ht : 1 ≤ t) : ceil 0 k t = 0 := by
  have := (ceil_le (n := 0) hk ht (by omega) 0).2 (by omega); omega

theorem dist_swap (kind t x y : Nat) : dist kind t y x = dist kind t x y := by
  unfold dist; rw [Nat.add_comm (y * y), Nat.add_comm y x, Nat.max_comm]
theorem dist_zero (kind : Nat) {t : Nat} (ht : 1 ≤ t) : dist kind t 0 0 = 0 := by
  unfold dist
  simp only [Nat.mul_zero, Nat.add_zero, near_zero ht, ceil_none (k := 1) (by omega) ht, nst_zero ht, ceil_none (k := 10) (by omega) ht, down_zero ht]
  simp
theorem dist_pos {kind x y : Nat} (hx : x ≤ 200000000) (hy : y ≤ 200000000) (h : x ≠ 0 ∨ y ≠ 0) : 1 ≤ dist kind 1 x y := by
  have hs := sum_most hx hy
  have h1 : 1 ≤ x * x + y * y := by
    rcases h with h | h
    · have : 1 * 1 ≤ x * x := sq_le (show 1 ≤ x by omega); omega
    · have : 1 * 1 ≤ y * y := sq_le (show 1 ≤ y by omega); omega
  unfold dist
  generalize x * x + y * y = n at hs h1
  have c1 := ceil_le (k := 1) (n := n) (by omega) (Nat.le_refl 1) (by omega) 0
  have c2 := ceil_le (k := 10) (n := n) (by omega) (Nat.le_refl 1) (by omega) 0
  have c3 := le_near (n := n) (Nat.le_refl 1) (by omega) 0
  have c4 := le_down (n := n) (m := 10) (Nat.le_refl 1) (by omega) 1
  simp only [Nat.mul_zero, Nat.zero_add, Nat.mul_one] at c1 c2 c3 c4
  simp only [nst_one]
  split
  · omega
  split
  · omega
  split
  · omega
  split
  · omega
  split <;> omega
theorem dist_tens {kind t x y : Nat} (hx : x ≤ 20000000) (hy : y ≤ 20000000) (ht : 1 ≤ t) : dist kind (10 * t) (10 * x) (10 * y) = dist kind t x y := by
  have h1 : x * x ≤ 400000000000000 := sq_le hx
  have h2 : y * y ≤ 400000000000000 := sq_le hy
  have e : 10 * x * (10 * x) + 10 * y * (10 * y) = 100 * (x * x + y * y) := by rw [sq_times, sq_times]; omega
  have hs : x * x + y * y ≤ 800000000000000 := by omega
  unfold dist
  rw [e, ← Nat.mul_add, nst_tens ht, nst_tens ht, nst_tens ht]
  generalize x * x + y * y = n at hs
  rw [near_tens hs ht, ceil_tens' hs (Nat.le_refl 1) ht, ceil_tens' hs (by omega) ht, down_tens hs ht]
theorem dist_most {kind t x y : Nat} (hx : x ≤ 200000000) (hy : y ≤ 200000000) (ht : 1 ≤ t) : dist kind t x y ≤ 3000000000 := by
  have hs := sum_most hx hy
  have n1 := nst_most (n := x + y) ht
  have n2 := nst_most (n := x) ht
  have n3 := nst_most (n := y) ht
  unfold dist
  generalize x * x + y * y = n at hs
  have c1 := near_small (d := t) hs
  have c2 := ceil_small (k := 1) hs (by omega) ht
  have c3 := ceil_small (k := 10) hs (by omega) ht
  have c4 := down_small (n := n) (m := 10) (d := t) (by omega)
  split
  · omega
  split
  · omega
  split
  · omega
  split
  · omega
  split <;> omega

/-! How the kinds stand to each other. -/
theorem most_le_straight {t x y : Nat} (hx : x ≤ 200000000) (hy : y ≤ 200000000) (ht : 1 ≤ t) : max (nst x t) (nst y t) ≤ near (x * x + y * y) t := by
  have hs := sum_most hx hy
  have h1 : x * x ≤ 40000000000000000 := sq_le hx
  have h2 : y * y ≤ 40000000000000000 := sq_le hy
  rw [nst_near ht (by omega), nst_near ht (by omega)]
  exact Nat.max_le.2 ⟨near_mono (Nat.le_add_right _ _) hs, near_mono (Nat.le_add_left _ _) hs⟩
theorem straight_le_sides {t x y : Nat} (hx : x ≤ 200000000) (hy : y ≤ 200000000) (ht : 1 ≤ t) : near (x * x + y * y) t ≤ nst (x + y) t := by
  obtain h | ⟨q, h⟩ : near (x * x + y * y) t = 0 ∨ ∃ q, near (x * x + y * y) t = q + 1 := by
    cases hq : near (x * x + y * y) t with
    | zero => exact .inl rfl
    | succ q => exact .inr ⟨q, rfl⟩
  · omega
  · have hs := sum_most hx hy
    rw [h, le_nst ht]
    have h1 := (le_near (n := x * x + y * y) ht (by omega) q).1 (by omega)
    refine le_of_sq (Nat.le_trans h1 ?_)
    rw [sq_times]
    have h2 : (x + y) * (x + y) = x * x + y * y + 2 * (x * y) := by simp only [Nat.mul_add, Nat.add_mul, Nat.mul_comm y x]; omega
    omega
theorem att_le {n t : Nat} (hn : n ≤ 80000000000000000) (ht : 1 ≤ t) : ceil n 10 t ≤ ceil n 1 t := by
  rw [ceil_le (by omega) ht (by omega)]
  have := (ceil_le (k := 1) (by omega) ht (show n ≤ 9223372036854775807 by omega) _).1 (Nat.le_refl (ceil n 1 t))
  omega
theorem tenth_ge {n t : Nat} (hn : n ≤ 80000000000000000) (ht : 1 ≤ t) : 10 * near n t ≤ down n 10 t + 5 := by
  obtain h | ⟨q, h⟩ : near n t = 0 ∨ ∃ q, near n t = q + 1 := by
    cases hq : near n t with
    | zero => exact .inl rfl
    | succ q => exact .inr ⟨q, rfl⟩
  · omega
  · have h1 := (le_near (n := n) ht (by omega) q).1 (by omega)
    have h2 := (le_down (n := n) (m := 10) ht (by omega) (5 * (2 * q + 1))).2 (by rw [show 5 * (2 * q + 1) * t = 5 * ((2 * q + 1) * t) from Nat.mul_assoc _ _ _, sq_times]; omega)
    omega
theorem tenth_le {n t : Nat} (hn : n ≤ 80000000000000000) (ht : 1 ≤ t) : down n 10 t ≤ 10 * near n t + 4 := by
  have h1 := le_near (n := n) ht (by omega) (near n t)
  have h2 := le_down (n := n) (m := 10) ht (by omega) (5 * (2 * near n t + 1))
  rw [show 5 * (2 * near n t + 1) * t = 5 * ((2 * near n t + 1) * t) from Nat.mul_assoc _ _ _, sq_times] at h2
  omega

/-! The way through a third point. -/
theorem sq_nonneg (x : Int) : 0 ≤ x * x := by rw [← Int.natAbs_mul_self]; exact Int.natCast_nonneg _
theorem sq_abs (x : Int) : ((x.natAbs * x.natAbs : Nat) : Int) = x * x := Int.natAbs_mul_self
theorem le_of_square {x c : Int} (hc : 0 ≤ c) (h : x * x ≤ c * c) : x ≤ c := by
  refine Int.not_lt.1 fun k => ?_
  have h1 : c * c ≤ c * x := Int.mul_le_mul_of_nonneg_left (by omega) hc
  have h2 : c * x < x * x := Int.mul_lt_mul_of_pos_right k (by omega)
  omega
theorem mul4_comm (a b c d : Int) : a * b * (c * d) = a * c * (b * d) := by rw [Int.mul_assoc, Int.mul_left_comm b c d, ← Int.mul_assoc]
theorem cross_sq (a b c d : Int) : (a * c + b * d) * (a * c + b * d) ≤ (a * a + b * b) * (c * c + d * d) := by
  have h : 0 ≤ (a * d - b * c) * (a * d - b * c) := sq_nonneg _
  have e1 : a * a * (c * c) = a * c * (a * c) := mul4_comm a a c c
  have e2 : a * a * (d * d) = a * d * (a * d) := mul4_comm a a d d
  have e3 : b * b * (c * c) = b * c * (b * c) := mul4_comm b b c c
  have e4 : b * b * (d * d) = b * d * (b * d) := mul4_comm b b d d
  have e5 : a * c * (b * d) = a * d * (b * c) := by rw [mul4_comm a c b d, mul4_comm a d b c, Int.mul_comm d c]
  simp only [Int.add_mul, Int.mul_add, Int.sub_mul, Int.mul_sub] at h ⊢
  rw [e1, e2, e3, e4]
  have e6 : b * d * (a * c) = a * c * (b * d) := Int.mul_comm _ _
  have e7 : b * c * (a * d) = a * d * (b * c) := Int.mul_comm _ _
  omega
theorem through {ax ay bx b_y : Int} {k A B : Int} (hk : 0 ≤ k) (hA : 0 ≤ A) (hB : 0 ≤ B) (ha : ax * ax + ay * ay ≤ k * (A * A)) (hb : bx * bx + b_y * b_y ≤ k * (B * B)) :
    (ax + bx) * (ax + bx) + (ay + b_y) * (ay + b_y) ≤ k * ((A + B) * (A + B)) := by
  have h1 := cross_sq ax ay bx b_y
  have hn : 0 ≤ bx * bx + b_y * b_y := by have := sq_nonneg bx; have := sq_nonneg b_y; omega
  have h2 : (ax * ax + ay * ay) * (bx * bx + b_y * b_y) ≤ k * (A * A) * (k * (B * B)) :=
    Int.le_trans (Int.mul_le_mul_of_nonneg_right ha hn) (Int.mul_le_mul_of_nonneg_left hb (Int.mul_nonneg hk (sq_nonneg A)))
  have e1 : k * (A * A) * (k * (B * B)) = k * (A * B) * (k * (A * B)) := by
    rw [mul4_comm, mul4_comm k (A * B), mul4_comm A A B B]
  have h3 : ax * bx + ay * b_y ≤ k * (A * B) := le_of_square (Int.mul_nonneg hk (Int.mul_nonneg hA hB)) (by rw [← e1]; exact Int.le_trans h1 h2)
  have e2 : (ax + bx) * (ax + bx) = ax * ax + bx * bx + 2 * (ax * bx) := by simp only [Int.add_mul, Int.mul_add, Int.mul_comm bx ax]; omega
  have e3 : (ay + b_y) * (ay + b_y) = ay * ay + b_y * b_y + 2 * (ay * b_y) := by simp only [Int.add_mul, Int.mul_add, Int.mul_comm b_y ay]; omega
  have e4 : k * ((A + B) * (A + B)) = k * (A * A) + k * (B * B) + 2 * (k * (A * B)) := by
    simp only [Int.add_mul, Int.mul_add, Int.mul_comm B A]; omega
  omega
theorem ceil_through {ax ay bx b_y : Int} {k t : Nat} (hk : 1 ≤ k) (ht : 1 ≤ t)
    (ha : ax.natAbs * ax.natAbs + ay.natAbs * ay.natAbs ≤ 80000000000000000) (hb : bx.natAbs * bx.natAbs + b_y.natAbs * b_y.natAbs ≤ 80000000000000000)
    (hc : (ax + bx).natAbs * (ax + bx).natAbs + (ay + b_y).natAbs * (ay + b_y).natAbs ≤ 80000000000000000) :
    ceil ((ax + bx).natAbs * (ax + bx).natAbs + (ay + b_y).natAbs * (ay + b_y).natAbs) k t ≤
      ceil (ax.natAbs * ax.natAbs + ay.natAbs * ay.natAbs) k t + ceil (bx.natAbs * bx.natAbs + b_y.natAbs * b_y.natAbs) k t := by
  have h1 := (ceil_le hk ht (show ax.natAbs * ax.natAbs + ay.natAbs * ay.natAbs ≤ 9223372036854775807 by omega) _).1 (Nat.le_refl _)
  have h2 := (ceil_le hk ht (show bx.natAbs * bx.natAbs + b_y.natAbs * b_y.natAbs ≤ 9223372036854775807 by omega) _).1 (Nat.le_refl _)
  rw [ceil_le hk ht (by omega), Nat.add_mul]
  generalize ceil (ax.natAbs * ax.natAbs + ay.natAbs * ay.natAbs) k t * t = A at h1
  generalize ceil (bx.natAbs * bx.natAbs + b_y.natAbs * b_y.natAbs) k t * t = B at h2
  have g1 := Int.ofNat_le.2 h1
  have g2 := Int.ofNat_le.2 h2
  rw [Int.natCast_add, sq_abs, sq_abs] at g1 g2
  have := through (k := (k : Int)) (A := (A : Int)) (B := (B : Int)) (by omega) (by omega) (by omega) (by simpa using g1) (by simpa using g2)
  refine Int.ofNat_le.1 ?_
  rw [Int.natCast_add, sq_abs, sq_abs]
  simpa using this
theorem sides_through (ax ay bx b_y : Int) : nst ((ax + bx).natAbs + (ay + b_y).natAbs) 1 ≤ nst (ax.natAbs + ay.natAbs) 1 + nst (bx.natAbs + b_y.natAbs) 1 := by
  simp only [nst_one]; omega
theorem most_through (ax ay bx b_y : Int) : max (nst (ax + bx).natAbs 1) (nst (ay + b_y).natAbs 1) ≤ max (nst ax.natAbs 1) (nst ay.natAbs 1) + max (nst bx.natAbs 1) (nst b_y.natAbs 1) := by
  simp only [nst_one]; omega
#print axioms ceil_through
end Go.Metric
/- Plain facts on what is wrong with a plan: ways, loads, times, wrongs; no program. -/
namespace Go.Feas
open Go.Canon Go.Plans Go.Metric
/-- What is wrong: the code, the route, the node. -/
abbrev Wr := Int × Int × Int
/-! How far, how much, when. -/
def way (x : Ins) (i j : Nat) : Int :=
  if x.metric = 0 then x.matrix.getD (i * x.nodes.length + j) 0
  else ((dist x.metric.toNat (10 ^ x.scale.toNat) ((at' x j).x - (at' x i).x).natAbs ((at' x j).y - (at' x i).y).natAbs : Nat) : Int)
def nodeB (x : Ins) (s : Int) : Bool := decide (0 ≤ s) && decide (s < (x.nodes.length : Int))
def nodesB (x : Ins) (r : List Int) : Bool := r.all (nodeB x)
def unit (x : Ins) : Int := if x.metric = 6 then 10 else 1
def nd (x : Ins) (s : Int) : Nd := at' x s.toNat
def loadStep (x : Ins) (t : Int × List Int) (s : Int) : Int × List Int := (t.1 + (nd x s).demand, t.2 ++ [t.1 + (nd x s).demand])
def loadsF (x : Ins) (r : List Int) : Int × List Int := r.foldl (loadStep x) (0, [])
def loads (x : Ins) (r : List Int) : List Int := if nodesB x r = true then (loadsF x r).2 else []
/-- Where one is, when, which stop was late, and when services began. -/
structure TS where
  now : Int
  pos : Nat
  late : Int
  out : List Int
def begins (x : Ins) (t : TS) (s : Int) : Int := max (t.now + way x t.pos s.toNat) (unit x * (nd x s).ready)
def timeStep (x : Ins) (t : TS) (s : Int) : TS :=
  ⟨begins x t s + unit x * (nd x s).service, s.toNat, if t.late < 0 ∧ unit x * (nd x s).due < begins x t s then (t.out.length : Int) else t.late, t.out ++ [begins x t s]⟩
def tstart (x : Ins) : TS := ⟨unit x * (at' x 0).ready, 0, -1, []⟩
def timesF (x : Ins) (r : List Int) : TS := r.foldl (timeStep x) (tstart x)
def back (x : Ins) (t : TS) : Bool := decide (unit x * (at' x 0).due < t.now + way x t.pos 0)
def lateI (x : Ins) (r : List Int) : Int :=
  if r.length = 0 then -1 else if nodesB x r = false then 0
  else if (timesF x r).late < 0 ∧ back x (timesF x r) = true then (r.length : Int) else (timesF x r).late
def timesL (x : Ins) (r : List Int) : List Int := if nodesB x r = true then (timesF x r).out else []
/-! What is wrong. -/
def least (x : Ins) : Nat := if x.kind = 1 then 0 else 1
def badB (x : Ins) (s : Int) : Bool := decide (s < (least x : Int)) || decide ((x.nodes.length : Int) ≤ s)
def unkR (x : Ins) (i : Nat) (r : List Int) : List Wr := (r.filter (badB x)).map fun s => (1, (i : Int), s)
def unks (x : Ins) : Nat → Rts → List Wr
  | _, [] => []
  | i, r :: rr => unkR x i r ++ unks x (i + 1) rr
def cntW (c : Nat) (n : Nat) : List Wr := if 1 < n then [(2, 0, (c : Int))] else if n = 0 then [(3, 0, (c : Int))] else []
def cnts (lo : Nat) (rr : Rts) : Nat → List Wr
  | 0 => []
  | c + 1 => cnts lo rr c ++ if lo ≤ c then cntW c (countR rr (c : Int)) else []
def full (rr : Rts) : Nat := (normR rr).length
def fleetW (x : Ins) (rr : Rts) : List Wr :=
  if x.kind = 1 then (if full rr ≠ 1 then [(4, 0, (full rr : Int))] else [])
  else if 0 < x.fleet ∧ x.fleet < (full rr : Int) then [(4, 0, (full rr : Int))] else []
def overB (x : Ins) (v : Int) : Bool := decide (x.cap < v) || decide (v < 0)
def loadW (x : Ins) (i : Nat) (r : List Int) : List Wr :=
  match (loads x r).findIdx? (overB x) with
  | some k => [(5, (i : Int), r.getD k 0)]
  | none => []
def lateW (x : Ins) (i : Nat) (r : List Int) : List Wr :=
  if 0 ≤ lateI x r ∧ lateI x r < (r.length : Int) then [(6, (i : Int), r.getD (lateI x r).toNat 0)]
  else if lateI x r = (r.length : Int) then [(6, (i : Int), 0)] else []
def pairK (x : Ins) (i : Nat) (r : List Int) (k : Nat) : List Wr :=
  if (nd x (r.getD k 0)).demand ≤ 0 ∨ (nd x (r.getD k 0)).mate ∈ r.drop (k + 1) then []
  else if (nd x (r.getD k 0)).mate ∈ r then [(8, (i : Int), r.getD k 0)] else [(7, (i : Int), r.getD k 0)]
def pairsW (x : Ins) (i : Nat) (r : List Int) : Nat → List Wr
  | 0 => []
  | k + 1 => pairsW x i r k ++ pairK x i r k
def routeW (x : Ins) (i : Nat) (r : List Int) : List Wr :=
  loadW x i r ++ if x.kind = 2 then [] else lateW x i r ++ if x.kind = 3 then [] else pairsW x i r r.length
def routesW (x : Ins) : Nat → Rts → List Wr
  | _, [] => []
  | i, r :: rr => routeW x i r ++ routesW x (i + 1) rr
def checkW (x : Ins) (rr : Rts) : List Wr :=
  if unks x 0 rr ≠ [] then unks x 0 rr
  else cnts (least x) rr x.nodes.length ++ (fleetW x rr ++ if x.kind = 1 then [] else routesW x 0 rr)
def feasB (x : Ins) (rr : Rts) : Bool := decide (checkW x rr = [])
/-! Step by step. -/
theorem loadsF_snoc (x : Ins) (r : List Int) (s : Int) : loadsF x (r ++ [s]) = loadStep x (loadsF x r) s := by unfold loadsF; rw [List.foldl_append]; rfl
theorem timesF_snoc (x : Ins) (r : List Int) (s : Int) : timesF x (r ++ [s]) = timeStep x (timesF x r) s := by unfold timesF; rw [List.foldl_append]; rfl
theorem snoc_ind {α : Type} {P : List α → Prop} (h0 : P []) (h1 : ∀ l a, P l → P (l ++ [a])) (l : List α) : P l := by
  rw [← List.reverse_reverse l]
  induction l.reverse with
  | nil => exact h0
  | cons a t ih => rw [List.reverse_cons]; exact h1 _ _ ih
theorem loadsF_length (x : Ins) (r : List Int) : (loadsF x r).2.length = r.length := by
  refine snoc_ind (P := fun r => (loadsF x r).2.length = r.length) rfl (fun l a h => ?_) r
  rw [loadsF_snoc]; simp [loadStep, h]
theorem timesF_length (x : Ins) (r : List Int) : (timesF x r).out.length = r.length := by
  refine snoc_ind (P := fun r => (timesF x r).out.length = r.length) rfl (fun l a h => ?_) r
  rw [timesF_snoc]; simp [timeStep, h]
theorem unks_snoc (x : Ins) (r : List Int) : ∀ (a : Rts) (i : Nat), unks x i (a ++ [r]) = unks x i a ++ unkR x (i + a.length) r
  | [], i => by simp [unks]
  | b :: a, i => by rw [List.cons_append, unks, unks, unks_snoc x r a (i + 1), List.append_assoc, List.length_cons, Nat.add_right_comm i 1, Nat.add_assoc]
theorem unkR_snoc (x : Ins) (i : Nat) (r : List Int) (s : Int) : unkR x i (r ++ [s]) = unkR x i r ++ if badB x s = true then [(1, (i : Int), s)] else [] := by
  unfold unkR
  rw [List.filter_append, List.map_append]
  congr 1
  by_cases h : badB x s = true
  · simp [h]
  · simp [h]
theorem routesW_snoc (x : Ins) (r : List Int) : ∀ (a : Rts) (i : Nat), routesW x i (a ++ [r]) = routesW x i a ++ routeW x (i + a.length) r
  | [], i => by simp [routesW]
  | b :: a, i => by rw [List.cons_append, routesW, routesW, routesW_snoc x r a (i + 1), List.append_assoc, List.length_cons, Nat.add_right_comm i 1, Nat.add_assoc]
/-! What may be relied on. -/
structure Fine (x : Ins) : Prop where
  kind : 1 ≤ x.kind ∧ x.kind ≤ 4
  metric : 0 ≤ x.metric ∧ x.metric ≤ 6
  scale : 0 ≤ x.scale ∧ x.scale ≤ 6
  cap : 0 ≤ x.cap ∧ x.cap ≤ 100000000
  fleet : 0 ≤ x.fleet ∧ x.fleet ≤ 400
  lo : 1 ≤ x.nodes.length
  hi : x.nodes.length ≤ 400
  matrix : x.metric = 0 → x.matrix.length = x.nodes.length * x.nodes.length ∧ ∀ i, i < x.nodes.length * x.nodes.length → 0 ≤ x.matrix.getD i 0 ∧ x.matrix.getD i 0 ≤ 100000000
  xy : ∀ i, (-100000000 ≤ (at' x i).x ∧ (at' x i).x ≤ 100000000) ∧ -100000000 ≤ (at' x i).y ∧ (at' x i).y ≤ 100000000
  demand : ∀ i, -100000000 ≤ (at' x i).demand ∧ (at' x i).demand ≤ 100000000
  ready : ∀ i, 0 ≤ (at' x i).ready ∧ (at' x i).ready ≤ 100000000
  due : ∀ i, 0 ≤ (at' x i).due ∧ (at' x i).due ≤ 100000000
  service : ∀ i, 0 ≤ (at' x i).service ∧ (at' x i).service ≤ 100000000
theorem at_out {x : Ins} {i : Nat} (h : x.nodes.length ≤ i) : at' x i = zeroNd := by unfold at'; simp [List.getD, List.getElem?_eq_none h]
theorem fine_of {N : ByteArray → Bool} {x : Ins} (h : Well N x) : Fine x := by
  have hk := h.kind
  have hm := h.metric
  have hs := h.scale
  have hc := h.cap
  have hf := h.fleet
  have hM := h.matrix
  simp only [kindB, metricB, scaleB, Bool.and_eq_true, decide_eq_true_eq] at hk hm hs
  have all : ∀ (P : Nd → Prop), P zeroNd → (∀ i, i < x.nodes.length → P (at' x i)) → ∀ i, P (at' x i) := by
    intro P h0 h1 i
    by_cases hi : i < x.nodes.length
    · exact h1 i hi
    · rw [at_out (by omega)]; exact h0
  refine ⟨hk, hm, hs.1, ?_, ?_, h.lo, h.hi, ?_, ?_, ?_, ?_, ?_, ?_⟩
  · unfold capB at hc; split at hc <;> simp only [Bool.and_eq_true, decide_eq_true_eq] at hc <;> omega
  · unfold fleetB at hf; split at hf <;> simp only [Bool.and_eq_true, decide_eq_true_eq] at hf <;> omega
  · intro h0
    unfold matrixB at hM
    rw [if_neg (by simpa using h0), Bool.and_eq_true, decide_eq_true_eq, List.all_eq_true] at hM
    refine ⟨hM.1, fun i hi => ?_⟩
    have := hM.2 i (List.mem_range.2 hi)
    simp only [number, Bool.and_eq_true, decide_eq_true_eq] at this
    exact this.1
  · refine all (fun d => (-100000000 ≤ d.x ∧ d.x ≤ 100000000) ∧ -100000000 ≤ d.y ∧ d.y ≤ 100000000) (by simp [zeroNd]) fun i hi => ?_
    have := (h.nodes i hi).1
    simp only [coordB, signed, Bool.and_eq_true, decide_eq_true_eq] at this
    exact this.1
  · intro i
    by_cases hi : i < x.nodes.length
    · have := (h.nodes i hi).2.1
      unfold demandB at this
      split at this
      · simp only [decide_eq_true_eq] at this; omega
      · simp only [number, signed, Bool.or_eq_true, Bool.and_eq_true, decide_eq_true_eq] at this; omega
    · rw [at_out (by omega)]; simp [zeroNd]
  · refine all (fun d => 0 ≤ d.ready ∧ d.ready ≤ 100000000) (by simp [zeroNd]) fun i hi => ?_
    have := (h.nodes i hi).2.2.1
    unfold windowB at this
    split at this <;> simp only [number, Bool.and_eq_true, decide_eq_true_eq] at this <;> omega
  · refine all (fun d => 0 ≤ d.due ∧ d.due ≤ 100000000) (by simp [zeroNd]) fun i hi => ?_
    have := (h.nodes i hi).2.2.1
    unfold windowB at this
    split at this <;> simp only [number, Bool.and_eq_true, decide_eq_true_eq] at this <;> omega
  · refine all (fun d => 0 ≤ d.service ∧ d.service ≤ 100000000) (by simp [zeroNd]) fun i hi => ?_
    have := (h.nodes i hi).2.2.2.1
    unfold serviceB at this
    split at this <;> simp only [number, Bool.and_eq_true, decide_eq_true_eq] at this <;> omega
theorem way_bounds {x : Ins} (h : Fine x) {i j : Nat} (hi : i < x.nodes.length) (hj : j < x.nodes.length) : 0 ≤ way x i j ∧ way x i j ≤ 3000000000 := by
  unfold way
  by_cases h0 : x.metric = 0
  · rw [if_pos h0]
    have hlt : i * x.nodes.length + j < x.nodes.length * x.nodes.length := by
      have h1 : (i + 1) * x.nodes.length ≤ x.nodes.length * x.nodes.length := Nat.mul_le_mul_right _ hi
      rw [Nat.add_mul] at h1; omega
    have := (h.matrix h0).2 _ hlt
    omega
  · rw [if_neg h0]
    have h1 := h.xy i
    have h2 := h.xy j
    have h3 : 1 ≤ 10 ^ x.scale.toNat := Nat.pow_pos (by omega)
    have := dist_most (kind := x.metric.toNat) (x := ((at' x j).x - (at' x i).x).natAbs) (y := ((at' x j).y - (at' x i).y).natAbs) (by omega) (by omega) h3
    omega
theorem unit_bounds (x : Ins) : 1 ≤ unit x ∧ unit x ≤ 10 := by unfold unit; split <;> omega
theorem nodeB_lt {x : Ins} {s : Int} (h : nodeB x s = true) : 0 ≤ s ∧ s.toNat < x.nodes.length ∧ s < x.nodes.length := by
  simp only [nodeB, Bool.and_eq_true, decide_eq_true_eq] at h; omega
theorem nodesB_snoc (x : Ins) (r : List Int) (s : Int) : nodesB x (r ++ [s]) = (nodesB x r && nodeB x s) := by simp [nodesB]
theorem unit_mul {x : Ins} {n : Int} (h : 0 ≤ n ∧ n ≤ 100000000) : 0 ≤ unit x * n ∧ unit x * n ≤ 1000000000 := by
  unfold unit; split <;> omega
structure TB (x : Ins) (k : Nat) (t : TS) : Prop where
  now : 0 ≤ t.now ∧ t.now ≤ 1000000000 + 4000000000 * k
  pos : t.pos < x.nodes.length
theorem begins_bounds {x : Ins} (h : Fine x) {t : TS} {k : Nat} (ht : TB x k t) {s : Int} (hs : nodeB x s = true) : 0 ≤ begins x t s ∧ begins x t s ≤ 4000000000 + 4000000000 * k := by
  have h1 := way_bounds h ht.pos (nodeB_lt hs).2.1
  have h2 := unit_mul (x := x) (h.ready s.toNat)
  have h3 := ht.now
  unfold begins nd
  omega
theorem timesF_bounds {x : Ins} (h : Fine x) : ∀ r : List Int, nodesB x r = true → TB x r.length (timesF x r) := by
  intro r
  refine snoc_ind (P := fun r => nodesB x r = true → TB x r.length (timesF x r)) ?_ (fun l a ih hn => ?_) r
  · intro _
    have := unit_mul (x := x) (h.ready 0)
    have := h.lo
    refine ⟨?_, ?_⟩
    · show 0 ≤ unit x * (at' x 0).ready ∧ unit x * (at' x 0).ready ≤ _
      simp only [List.length_nil]; omega
    · show 0 < _; omega
  · rw [nodesB_snoc, Bool.and_eq_true] at hn
    have ht := ih hn.1
    have hb := begins_bounds h ht hn.2
    have hu := unit_mul (x := x) (h.service a.toNat)
    rw [timesF_snoc, List.length_append]
    refine ⟨?_, (nodeB_lt hn.2).2.1⟩
    show 0 ≤ begins x (timesF x l) a + unit x * (nd x a).service ∧ begins x (timesF x l) a + unit x * (nd x a).service ≤ _
    unfold nd
    simp only [List.length_cons, List.length_nil]
    omega
theorem loadsF_bounds {x : Ins} (h : Fine x) (r : List Int) : -(100000000 * (r.length : Int)) ≤ (loadsF x r).1 ∧ (loadsF x r).1 ≤ 100000000 * (r.length : Int) := by
  refine snoc_ind (P := fun r => -(100000000 * (r.length : Int)) ≤ (loadsF x r).1 ∧ (loadsF x r).1 ≤ 100000000 * (r.length : Int)) (by simp [loadsF]) (fun l a ih => ?_) r
  have := h.demand a.toNat
  rw [loadsF_snoc, List.length_append]
  show _ ≤ (loadsF x l).1 + (nd x a).demand ∧ (loadsF x l).1 + (nd x a).demand ≤ _
  unfold nd
  simp only [List.length_cons, List.length_nil]
  omega
#print axioms fine_of
#print axioms timesF_bounds
#print axioms loadsF_bounds
end Go.Feas
/- An instance in a box of a call's own. No program. -/
namespace Go.Proofs
open Go.RowKit Go.Shelf Go.Canon Go.Feas
theorem fbelow_box (w : World) (o : Obj) : Below w.heap.size w (w.alloc o) := (Below.refl _ w).alloc (Nat.le_refl _) _
def InsBox (W : World) (B : Nat) (x : Ins) (vn vm : Value) (t : TypeId) : Prop :=
  W.heap[B]? = some (.cells #[.string x.name, .int .i64 x.kind, .int .i64 x.metric, .int .i64 x.scale, .int .i64 x.cap, .int .i64 x.fleet, vn, vm] t)
theorem InsBox.new (w : World) (x : Ins) (vn vm : Value) (t : TypeId) : InsBox (w.alloc (.cells #[.string x.name, .int .i64 x.kind, .int .i64 x.metric, .int .i64 x.scale, .int .i64 x.cap, .int .i64 x.fleet, vn, vm] t)) w.heap.size x vn vm t := World.alloc_heap_new w _
theorem InsBox.lt {W : World} {B : Nat} {x : Ins} {vn vm : Value} {t : TypeId} (h : InsBox W B x vn vm t) : B < W.heap.size := by
  unfold InsBox at h
  exact (Array.getElem?_eq_some_iff.1 h).1
theorem InsBox.below {W W' : World} {B N : Nat} {x : Ins} {vn vm : Value} {t : TypeId} (h : InsBox W B x vn vm t) (hb : Below N W W') (hN : B < N) : InsBox W' B x vn vm t := (hb.block B hN).trans h
theorem InsBox.next {W W' : World} {B : Nat} {x : Ins} {vn vm : Value} {t : TypeId} (h : InsBox W B x vn vm t) (hb : Below W.heap.size W W') : InsBox W' B x vn vm t := h.below hb h.lt
theorem InsBox.alloc {W : World} {B : Nat} {x : Ins} {vn vm : Value} {t : TypeId} (h : InsBox W B x vn vm t) (o : Obj) : InsBox (W.alloc o) B x vn vm t := h.next (fbelow_box W o)
theorem InsBox.c {W : World} {B : Nat} {x : Ins} {vn vm : Value} {t : TypeId} (h : InsBox W B x vn vm t) (j : Nat) : W.cell? ⟨B, j, none⟩ = (#[Value.string x.name, .int .i64 x.kind, .int .i64 x.metric, .int .i64 x.scale, .int .i64 x.cap, .int .i64 x.fleet, vn, vm] : Array Value)[j]? := by
  unfold World.cell?; unfold InsBox at h; rw [h]; rfl
theorem InsBox.cells {W : World} {B : Nat} {x : Ins} {vn vm : Value} {t : TypeId} (h : InsBox W B x vn vm t) :
    W.cell? ⟨B, 0, none⟩ = some (.string x.name) ∧ W.cell? ⟨B, 1, none⟩ = some (.int .i64 x.kind) ∧ W.cell? ⟨B, 2, none⟩ = some (.int .i64 x.metric) ∧ W.cell? ⟨B, 3, none⟩ = some (.int .i64 x.scale) ∧ W.cell? ⟨B, 4, none⟩ = some (.int .i64 x.cap) ∧ W.cell? ⟨B, 5, none⟩ = some (.int .i64 x.fleet) ∧ W.cell? ⟨B, 6, none⟩ = some vn ∧ W.cell? ⟨B, 7, none⟩ = some vm :=
  ⟨h.c 0, h.c 1, h.c 2, h.c 3, h.c 4, h.c 5, h.c 6, h.c 7⟩
theorem fbelow_next {B : Nat} {w W W' : World} (h : Below B w W) (hb : Below W.heap.size W W') (hB : B ≤ W.heap.size) : Below B w W' := h.trans (hb.mono hB)
/-- All the nodes, and the matrix, as cells. -/
theorem HasIns.all {W : World} {vn vm : Value} {x : Ins} (h : HasIns W vn vm x) (hn : 1 ≤ x.nodes.length) : ∃ b off cap, vn = .slice (some ⟨b, off, none⟩) x.nodes.length cap ∧ x.nodes.length ≤ cap ∧ cap ≤ maxLen ∧ NodesAt W b off x.nodes := by
  rcases h.nodes with ⟨h0, _⟩ | ⟨b, off, cap, h1, h2, h3, h4⟩
  · rw [h0] at hn; simp at hn
  · exact ⟨b, off, cap, h1, h2, h3, h4⟩
theorem nodesAt_nd {W : World} {b off : Nat} {x : Ins} (h : NodesAt W b off x.nodes) {i : Nat} (hi : i < x.nodes.length) : NdAt W b (off + i * 7) (at' x i) := h.2 i _ (by simp [at', List.getD, hi])
end Go.Proofs
/- Slices of what is wrong: three numbers each. No program's functions. -/
namespace Go.Proofs
open Go.RowKit Go.Shelf Go.Canon Go.Feas
def wrC (p : Wr) : List Value := [.int .i64 p.1, .int .i64 p.2.1, .int .i64 p.2.2]
def WrAt (W : World) (b off : Nat) (l : List Wr) : Prop := b < W.heap.size ∧ ∀ i p, l[i]? = some p → W.cell? ⟨b, off + i * 3, none⟩ = some (.int .i64 p.1) ∧ W.cell? ⟨b, off + i * 3 + 1, none⟩ = some (.int .i64 p.2.1) ∧ W.cell? ⟨b, off + i * 3 + 2, none⟩ = some (.int .i64 p.2.2)
/-- A slice that reads as these. -/
def HasWrs (W : World) (v : Value) (l : List Wr) : Prop := (l = [] ∧ ∃ ao cap, v = .slice ao 0 cap) ∨ ∃ b off cap, v = .slice (some ⟨b, off, none⟩) l.length cap ∧ l.length ≤ cap ∧ cap ≤ maxLen ∧ WrAt W b off l
theorem WrAt.next {b off : Nat} {W W' : World} {l : List Wr} (h : WrAt W b off l) (hb : Below W.heap.size W W') : WrAt W' b off l :=
  ⟨Nat.lt_of_lt_of_le h.1 hb.size, fun i p hi => ⟨(hb.cell (p := ⟨b, off + i * 3, none⟩) h.1).trans (h.2 i p hi).1, (hb.cell (p := ⟨b, off + i * 3 + 1, none⟩) h.1).trans (h.2 i p hi).2.1, (hb.cell (p := ⟨b, off + i * 3 + 2, none⟩) h.1).trans (h.2 i p hi).2.2⟩⟩
theorem HasWrs.next {W W' : World} {v : Value} {l : List Wr} (h : HasWrs W v l) (hb : Below W.heap.size W W') : HasWrs W' v l := by
  rcases h with h | ⟨b, off, cap, h1, h2, h3, h4⟩
  · exact .inl h
  · exact .inr ⟨b, off, cap, h1, h2, h3, h4.next hb⟩
theorem HasWrs.dat {W : World} {v : Value} {l : List Wr} (h : HasWrs W v l) : ∃ ao cap, v = .slice ao l.length cap ∧ (l = [] ∨ ∃ b off, ao = some ⟨b, off, none⟩ ∧ WrAt W b off l) := by
  rcases h with ⟨rfl, ao, cap, rfl⟩ | ⟨b, off, cap, rfl, _, _, hd⟩
  · exact ⟨ao, cap, rfl, .inl rfl⟩
  · exact ⟨_, cap, rfl, .inr ⟨b, off, rfl, hd⟩⟩
theorem wrs_of_owns {W : World} {base : Nat} {e : TypeId} {v : Value} {l : List Wr} (h : W.ownsRow base e 3 v l.length (l.flatMap wrC)) : HasWrs W v l := by
  rcases owns_flat (f := wrC) (s := 3) (fun _ => rfl) h with ⟨rfl, rfl⟩ | ⟨g, cap, rfl, h1, h2, h3, h4⟩
  · exact .inl ⟨rfl, none, 0, rfl⟩
  · exact .inr ⟨g, 0, cap, rfl, h1, h2, h3, fun i p hi => ⟨h4 i p 0 _ hi rfl, h4 i p 1 _ hi rfl, h4 i p 2 _ hi rfl⟩⟩
/-! Own rows, and what stands beside them. -/
theorem fowns_next {W W1 : World} {base : Nat} {e : TypeId} {size : Nat} {v : Value} {k : Nat} {xs : List Value} (h : W.ownsRow base e size v k xs) (hB : Below W.heap.size W W1) : W1.ownsRow base e size v k xs := by
  refine ⟨by have := h.1; have := hB.size; omega, ?_⟩
  rcases h.2 with h2 | ⟨g, cap, cur, h1, h2, h3, h4⟩
  · exact .inl h2
  · exact .inr ⟨g, cap, cur, h1, h2, (hB.block g (Array.getElem?_eq_some_iff.1 h3).1).trans h3, h4⟩
theorem fgrown_below {n₀ base : Nat} {w W w1 : World} {v : Value} {e : TypeId} {size k : Nat} {xs : List Value} (hB : Below n₀ w W) (hn : n₀ ≤ W.heap.size) (hb : n₀ ≤ base) (hown : W.ownsRow base e size v k xs) (hgrow : W.grownBy w1 v.ownBlock) : Below n₀ w w1 := by
  refine hB.grown hgrow hn ?_
  intro k hk
  have := (hown.lt k hk).1
  omega
theorem InsBox.grown {W w1' : World} {B base : Nat} {x : Ins} {vn vm : Value} {t : TypeId} {v : Value} {e : TypeId} {size k : Nat} {xs : List Value} (h : InsBox W B x vn vm t) (hlt : B < base) (hown : W.ownsRow base e size v k xs) (hgrow : W.grownBy w1' v.ownBlock) : InsBox w1' B x vn vm t :=
  (hgrow.block B h.lt (fun e => by have := (hown.lt B e.symm).1; omega)).trans h
theorem cells_wr (W : World) (a b c : Value) (t : TypeId) : ∀ (j : Nat) (u : Value), [a, b, c][j]? = some u → (W.alloc (.cells #[a, b, c] t)).cell? ((⟨W.heap.size, 0, none⟩ : Addr).add j) = some u := by
  intro j u h
  rw [Addr.add_lit, Nat.zero_add]
  have hh := World.alloc_heap_new W (.cells #[a, b, c] t)
  rcases j with _ | _ | _ | j
  · have e : a = u := by simpa using h
    subst e; unfold World.cell?; simp only [hh]; rfl
  · have e : b = u := by simpa using h
    subst e; unfold World.cell?; simp only [hh]; rfl
  · have e : c = u := by simpa using h
    subst e; unfold World.cell?; simp only [hh]; rfl
  · simp at h
end Go.Proofs
