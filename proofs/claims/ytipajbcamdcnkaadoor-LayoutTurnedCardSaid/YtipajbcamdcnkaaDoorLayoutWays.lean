/- Plain facts on the lines of a matrix: from which cell to which one a layout tells them; no program. -/
import Derived.Test.YtipajbcamdcnkaaDoorLayoutRef
namespace Go.Layout
/-- The first cell of line a that a layout tells, and the one behind the last. -/
def beg (k a : Nat) : Nat := if k = 2 ∨ k = 7 then a + 1 else if k = 4 then a else 0
def fin (k n a : Nat) : Nat := if k = 3 ∨ k = 6 then a else if k = 5 then a + 1 else n
theorem seven {k : Nat} (hk : 1 ≤ k) (hk7 : k ≤ 7) : k = 1 ∨ (k = 2 ∨ k = 7) ∨ (k = 3 ∨ k = 6) ∨ k = 4 ∨ k = 5 := by omega
theorem beg_le {k n a : Nat} (hk : 1 ≤ k) (hk7 : k ≤ 7) (ha : a < n) : beg k a ≤ fin k n a ∧ fin k n a ≤ n := by
  unfold beg fin
  rcases (show k = 1 ∨ k = 2 ∨ k = 3 ∨ k = 4 ∨ k = 5 ∨ k = 6 ∨ k = 7 by omega) with rfl | rfl | rfl | rfl | rfl | rfl | rfl <;> simp <;> omega
theorem told_span {k n a b : Nat} (hk : 1 ≤ k) (hk7 : k ≤ 7) (hb : b < n) : told k a b = (decide (beg k a ≤ b) && decide (b < fin k n a)) := by
  rcases seven hk hk7 with rfl | h | h | rfl | rfl
  · rw [told_one]; simp [beg, fin, hb]
  · rw [told_up h]; rcases h with rfl | rfl <;> simp [beg, fin, hb, Nat.succ_le_iff]
  · rw [told_low h]; rcases h with rfl | rfl <;> simp [beg, fin]
  · rw [told_four]; simp [beg, fin, hb]
  · rw [told_five]; simp [beg, fin, Nat.lt_succ_iff]
theorem rowUp_span {k n a b : Nat} (hk : 1 ≤ k) (hk7 : k ≤ 7) (hb : b ≤ n) : rowUp k a b = min b (fin k n a) - beg k a := by
  rcases seven hk hk7 with rfl | h | h | rfl | rfl
  · rw [rowUp_one]; simp [beg, fin]; omega
  · rw [rowUp_up h]; rcases h with rfl | rfl <;> simp [beg, fin] <;> omega
  · rw [rowUp_low h]; rcases h with rfl | rfl <;> simp [beg, fin]
  · rw [rowUp_four]; simp [beg, fin]; omega
  · rw [rowUp_five]; simp [beg, fin]
theorem rowUp_all {k n a : Nat} (hk : 1 ≤ k) (hk7 : k ≤ 7) (ha : a < n) : rowUp k a n = fin k n a - beg k a := by
  have := beg_le hk hk7 ha
  rw [rowUp_span hk hk7 (Nat.le_refl n)]; omega
theorem rowUp_in {k n a b : Nat} (hk : 1 ≤ k) (hk7 : k ≤ 7) (ha : a < n) (h2 : b ≤ fin k n a) : rowUp k a b = b - beg k a := by
  have := beg_le hk hk7 ha
  rw [rowUp_span (n := n) hk hk7 (by omega)]; omega
theorem rowsUp_next (k n a : Nat) : rowsUp k n (a + 1) = rowsUp k n a + rowUp k a n := rfl
theorem rowsUp_count {k n : Nat} (hk : 1 ≤ k) (hk7 : k ≤ 7) : rowsUp k n n = count k n := by
  rw [← places_length hk hk7, ← toldUpto_all, len_rows (Nat.le_refl n)]
theorem rowsUp_mono {k n a b : Nat} (h : a ≤ b) : rowsUp k n a ≤ rowsUp k n b := by
  induction b with
  | zero => rw [Nat.le_zero.1 h]; exact Nat.le_refl _
  | succ b ih =>
    rcases Nat.lt_or_ge b a with h1 | h1
    · rw [show a = b + 1 by omega]; exact Nat.le_refl _
    · exact Nat.le_trans (ih h1) (by rw [rowsUp_next]; omega)
/-! The steps that are told: lines and cells. -/
def steps (k n : Nat) : List (Nat × Nat) := (pairs n).filter fun p => told k p.1 p.2
theorem places_steps (k n : Nat) : places k n = (steps k n).map (cellAt k) := by
  unfold places steps told; rw [List.filter_map]; rfl
theorem steps_length (k n : Nat) : (steps k n).length = rowsUp k n n := by
  have h : (places k n).length = (steps k n).length := by rw [places_steps, List.length_map]
  rw [← h, ← toldUpto_all, len_rows (Nat.le_refl n)]
theorem steps_get {k n a b : Nat} (ha : a < n) (hb : b < n) (h : told k a b = true) : (steps k n)[rowsUp k n a + rowUp k a b]? = some (a, b) := by
  have h1 := places_at (k := k) ha hb h
  rw [len_at ha (by omega), places_steps, List.getElem?_map, Option.map_eq_some_iff] at h1
  obtain ⟨p, h2, h3⟩ := h1
  rw [h2, cellAt_inj h3]
theorem mem_steps {k n a b : Nat} : (a, b) ∈ steps k n ↔ (a < n ∧ b < n) ∧ told k a b = true := by
  unfold steps; rw [List.mem_filter, mem_pairs]
/-! Columns are told as rows, mirrored. -/
def rowK (k : Nat) : Nat := if k = 6 then 3 else if k = 7 then 2 else k
theorem rowK_in {k : Nat} (hk : 1 ≤ k) (hk7 : k ≤ 7) : 1 ≤ rowK k ∧ rowK k ≤ 5 := by unfold rowK; split <;> (try split) <;> omega
theorem rowK_one {k : Nat} : rowK k = 1 ↔ k = 1 := by unfold rowK; split <;> (try split) <;> omega
theorem told_rowK (k a b : Nat) : told (rowK k) a b = told k a b := by
  unfold rowK
  split
  · rename_i h; subst h; rw [told_low (.inl rfl), told_low (.inr rfl)]
  · split
    · rename_i h; subst h; rw [told_up (.inl rfl), told_up (.inr rfl)]
    · rfl
theorem steps_rowK (k n : Nat) : steps (rowK k) n = steps k n := by unfold steps; simp only [told_rowK]
theorem places_rowK {k : Nat} (hk : 1 ≤ k) (hk7 : k ≤ 7) (n : Nat) : places (rowK k) n = steps k n := by
  have h := rowK_in hk hk7
  have h2 : cellAt (rowK k) = id := funext fun p => by unfold cellAt; rw [if_neg (by omega)]; rfl
  rw [places_steps, steps_rowK, h2, List.map_id]
theorem unpack_rowK (k n : Nat) (l : List Int) : unpack (rowK k) n l = unpack k n l := by
  unfold rowK
  split
  · rename_i h; subst h; exact (unpack_six n l).symm
  · split
    · rename_i h; subst h; exact (unpack_seven n l).symm
    · rfl
theorem bad_rowK (k n : Nat) (m : List Int) (i j : Nat) : bad (rowK k) n m i j = bad k n m i j := by
  have h1 : decide (rowK k ≠ 1) = decide (k ≠ 1) := by simp only [ne_eq, rowK_one]
  have h2 : tells (rowK k) i i = tells k i i := by
    unfold rowK
    split
    · rename_i h; subst h; simp [tells]
    · split
      · rename_i h; subst h; simp [tells]
      · rfl
  unfold bad; rw [h1, h2]
theorem fits_rowK (k n : Nat) (m : List Int) : fits (rowK k) n m ↔ fits k n m := by unfold fits; simp only [bad_rowK]
/-- The numbers that stand at the steps of a layout. -/
def gath (k n : Nat) (m : List Int) : List Int := (steps k n).map fun p => cell m n p.1 p.2
theorem gath_rowK {k : Nat} (hk : 1 ≤ k) (hk7 : k ≤ 7) (n : Nat) (m : List Int) : gath k n m = pack (rowK k) n m := by unfold gath pack; rw [places_rowK hk hk7]
theorem gath_pack {k n : Nat} {m : List Int} (h : fits k n m) : gath k n m = pack k n m := by
  unfold gath pack
  rw [places_steps, List.map_map]
  refine List.map_congr_left fun ⟨a, b⟩ hp => ?_
  have hm := (mem_steps.1 hp).1
  simp only [Function.comp]
  unfold cellAt
  split
  · rename_i hc
    have hb := h a b hm.1 hm.2
    simp only [bad, Bool.or_eq_false_iff, Bool.and_eq_false_iff] at hb
    rcases hb.1 with h1 | h1
    · have : k = 1 := by simpa using h1
      omega
    · simpa using h1
  · rfl
theorem back_fits {k n : Nat} (hk : 1 ≤ k) (hk7 : k ≤ 7) {m : List Int} (hm : m.length = n * n) : unpack k n (gath k n m) = m ↔ fits k n m := by
  have hr := rowK_in hk hk7
  rw [gath_rowK hk hk7, ← unpack_rowK, ← fits_rowK]
  constructor
  · intro h
    intro i j hi hj
    have := unpack_fits (k := rowK k) hr.1 (by omega) (pack (rowK k) n m) hi hj
    rw [h] at this
    exact this
  · exact fun h => unpack_pack hr.1 (by omega) hm h
/-! A matrix that is filled step by step. -/
def fill (l : List Int) (k n : Nat) : Nat → List Int
  | 0 => List.replicate (n * n) 0
  | t + 1 => match (steps k n)[t]? with
    | some (a, b) => if k = 1 then (fill l k n t).set (a * n + b) (l.getD t 0) else ((fill l k n t).set (a * n + b) (l.getD t 0)).set (b * n + a) (l.getD t 0)
    | none => fill l k n t
theorem fill_next {l : List Int} {k n t a b : Nat} (h : (steps k n)[t]? = some (a, b)) :
    fill l k n (t + 1) = if k = 1 then (fill l k n t).set (a * n + b) (l.getD t 0) else ((fill l k n t).set (a * n + b) (l.getD t 0)).set (b * n + a) (l.getD t 0) := by
  rw [fill]; simp only [h]
theorem fill_mat {l : List Int} {k n : Nat} (hk : 1 ≤ k) (hk7 : k ≤ 7) : ∀ s, s ≤ n * n → fill l k n (toldUpto (rowK k) n s).length = matUpto l (rowK k) n s := by
  have hr := rowK_in hk hk7
  intro s
  induction s with
  | zero => intro _; rw [toldUpto_zero, matUpto_zero]; rfl
  | succ s ih =>
    intro hs
    obtain ⟨ha, hb, hab⟩ := step_of (show s < n * n by omega)
    have ih := ih (by omega)
    obtain ⟨a, hae⟩ : ∃ a, s / n = a := ⟨_, rfl⟩
    obtain ⟨b, hbe⟩ : ∃ b, s % n = b := ⟨_, rfl⟩
    rw [hae] at ha hab
    rw [hbe] at hb hab
    rw [← hab] at ih ⊢
    have hc : cellAt (rowK k) (a, b) = (a, b) := by unfold cellAt; rw [if_neg (by omega)]
    rw [len_next ha hb]
    by_cases ht : told (rowK k) a b = true
    · rw [if_pos ht, matUpto_told hr.1 (by omega) ha hb hc ht, ← ih]
      have h1 := steps_get (k := rowK k) ha hb ht
      rw [steps_rowK, ← len_at ha (by omega)] at h1
      rw [fill_next h1]
      simp only [rowK_one]
    · rw [if_neg ht, matUpto_none hb (by simpa using ht), Nat.add_zero]; exact ih
theorem fill_all {l : List Int} {k n : Nat} (hk : 1 ≤ k) (hk7 : k ≤ 7) : fill l k n (steps k n).length = unpack k n l := by
  have h := fill_mat (l := l) hk hk7 (n * n) (Nat.le_refl _)
  rw [matUpto_all, unpack_rowK, toldUpto_all, places_rowK hk hk7] at h
  exact h
/-! At which place a step stands. -/
def placeE (k n a b : Nat) : Int := if told k a b = true then ((rowsUp k n a + rowUp k a b : Nat) : Int) else -1
theorem index_place {k n i j : Nat} (hk : 1 ≤ k) (hk7 : k ≤ 7) (hi : i < n) (hj : j < n) : (if 0 ≤ placeE k n i j then placeE k n i j else placeE k n j i) = index k n i j := by
  have key : ∀ p q, p < n → q < n → placeE k n p q = if tells k (cellAt k (p, q)).1 (cellAt k (p, q)).2 = true then (rank k n (cellAt k (p, q)).1 (cellAt k (p, q)).2 : Int) else -1 := by
    intro p q hp hq
    unfold placeE
    by_cases hc : k = 6 ∨ k = 7
    · have hx : cellAt k (p, q) = (q, p) := by simp [cellAt, hc]
      rw [hx, told_col hc, rank_col hc hq hp]
    · have hx : cellAt k (p, q) = (p, q) := by simp [cellAt, hc]
      rw [hx, told_row (by omega) (by omega), rank_row (by omega) (by omega) hp hq]
  rw [key i j hi hj, key j i hj hi]
  by_cases hc : k = 6 ∨ k = 7
  · have hx : cellAt k (i, j) = (j, i) := by simp [cellAt, hc]
    have hy : cellAt k (j, i) = (i, j) := by simp [cellAt, hc]
    rw [hx, hy, ← index_swap (by omega) hk hk7]
    unfold index
    by_cases h1 : tells k j i = true
    · simp [h1]
    · simp [h1]
  · have hx : cellAt k (i, j) = (i, j) := by simp [cellAt, hc]
    have hy : cellAt k (j, i) = (j, i) := by simp [cellAt, hc]
    rw [hx, hy]
    unfold index
    by_cases h1 : tells k i j = true
    · simp [h1]
    · simp [h1]
#print axioms back_fits
#print axioms fill_all
#print axioms index_place
end Go.Layout
