/- Plain facts on what putting one mark into a sorted list keeps; no program. -/
import Derived.Test.YtgapefkoemofcaaDoorMarks
namespace Go.Dg
/-- Are they one? -/
def eqm (x d : Mk) : Bool := x.1 == d.1 && x.2 == d.2
theorem eqm_iff {x d : Mk} : eqm x d = true ↔ x = d := by
  unfold eqm
  rw [Bool.and_eq_true, beq_iff_eq, beq_iff_eq]
  exact ⟨fun h => Prod.ext h.1 h.2, fun h => by rw [h]; exact ⟨rfl, rfl⟩⟩
theorem eqm_cases (x d : Mk) : ((x.1 == d.1) = false ∧ eqm x d = false) ∨ ((x.1 == d.1) = true ∧ (x.2 == d.2) = false ∧ eqm x d = false) ∨ ((x.1 == d.1) = true ∧ (x.2 == d.2) = true ∧ eqm x d = true) := by
  unfold eqm
  cases h1 : x.1 == d.1 <;> cases h2 : x.2 == d.2 <;> simp
def cnt (l : List Mk) (d : Mk) (k : Nat) : Nat := (l.take k).countP fun x => lt x d
def thr (l : List Mk) (d : Mk) (k : Nat) : Bool := (l.take k).any fun x => eqm x d
def ceq (l : List Mk) (p : Mk) (k : Nat) : Nat := (l.take k).countP fun x => eqm x p
def kep (P l : List Mk) : Nat → Nat
  | 0 => 0
  | k + 1 => kep P l k + (match l[k]? with | some p => ceq P p P.length | none => 0)
theorem cnt_step {l : List Mk} {d p : Mk} {k : Nat} (h : l[k]? = some p) : cnt l d (k + 1) = cnt l d k + (if lt p d = true then 1 else 0) := by
  unfold cnt; rw [take_get h, List.countP_append, List.countP_singleton]
theorem thr_step {l : List Mk} {d p : Mk} {k : Nat} (h : l[k]? = some p) : thr l d (k + 1) = (thr l d k || eqm p d) := by
  unfold thr; rw [take_get h, List.any_append]; simp
theorem ceq_step {l : List Mk} {d p : Mk} {k : Nat} (h : l[k]? = some p) : ceq l d (k + 1) = ceq l d k + (if eqm p d = true then 1 else 0) := by
  unfold ceq; rw [take_get h, List.countP_append, List.countP_singleton]
theorem kep_step {P l : List Mk} {p : Mk} {k : Nat} (h : l[k]? = some p) : kep P l (k + 1) = kep P l k + ceq P p P.length := by
  simp [kep, h]
theorem cnt_le (l : List Mk) (d : Mk) (k : Nat) : cnt l d k ≤ k := by
  unfold cnt; exact Nat.le_trans List.countP_le_length (by rw [List.length_take]; omega)
theorem ceq_le (l : List Mk) (d : Mk) (k : Nat) : ceq l d k ≤ k := by
  unfold ceq; exact Nat.le_trans List.countP_le_length (by rw [List.length_take]; omega)
theorem ceq_one : ∀ {l : List Mk} {p : Mk}, Srt l → p ∈ l → l.countP (fun x => eqm x p) = 1
  | [], _, _, h => by simp at h
  | x :: r, p, hs, h => by
    have hz : ∀ q, (∀ y ∈ r, y ≠ q) → r.countP (fun x => eqm x q) = 0 := fun q hq => by
      rw [List.countP_eq_zero]
      intro y hy he
      exact hq y hy (eqm_iff.1 he)
    rw [List.countP_cons]
    by_cases e : x = p
    · subst e
      rw [hz x (fun y hy e => by have := hs.1 y hy; rw [e, lt_irrefl] at this; cases this), if_pos (eqm_iff.2 rfl)]
    · have hm : p ∈ r := by
        rcases List.mem_cons.1 h with h | h
        · exact absurd h.symm e
        · exact h
      rw [ceq_one hs.2 hm, if_neg (fun h => e (eqm_iff.1 h))]
theorem ceq_le_one {l : List Mk} {p : Mk} (hs : Srt l) : l.countP (fun x => eqm x p) ≤ 1 := by
  by_cases h : p ∈ l
  · rw [ceq_one hs h]; exact Nat.le_refl _
  · rw [List.countP_eq_zero.2 (fun y hy he => h (by rw [← eqm_iff.1 he]; exact hy))]; omega
theorem ceq_full (P : List Mk) (p : Mk) : ceq P p P.length = P.countP fun x => eqm x p := by unfold ceq; rw [List.take_length]
theorem kep_le {P l : List Mk} (hs : Srt P) : ∀ k, kep P l k ≤ k
  | 0 => Nat.le_refl _
  | k + 1 => by
    have ih := kep_le (l := l) hs k
    unfold kep
    cases h : l[k]? with
    | none => simp; omega
    | some p => have := ceq_le_one (p := p) hs; simp only [ceq_full]; omega
theorem kep_all {P l : List Mk} (hs : Srt P) : ∀ k, k ≤ l.length → (∀ i p, i < k → l[i]? = some p → p ∈ P) → kep P l k = k
  | 0, _, _ => rfl
  | k + 1, hk, h => by
    obtain ⟨p, hp⟩ : ∃ p, l[k]? = some p := ⟨_, List.getElem?_eq_getElem (by omega)⟩
    rw [kep_step hp, kep_all hs k (by omega) (fun i q hi => h i q (by omega)), ceq_full, ceq_one hs (h k p (by omega) hp)]
theorem thr_iff {l : List Mk} {d : Mk} : thr l d l.length = true ↔ d ∈ l := by
  unfold thr
  rw [List.take_length, List.any_eq_true]
  exact ⟨fun ⟨x, h1, h2⟩ => eqm_iff.1 h2 ▸ h1, fun h => ⟨d, h, eqm_iff.2 rfl⟩⟩
theorem cnt_below : ∀ {l : List Mk} {d : Mk}, Srt l → l.countP (fun x => lt x d) = below l d
  | [], _, _ => rfl
  | x :: r, d, hs => by
    unfold below
    rw [List.countP_cons, List.takeWhile_cons]
    by_cases h : lt x d = true
    · rw [if_pos h, if_pos h, cnt_below hs.2, List.length_cons]; rfl
    · rw [if_neg h, if_neg h, List.countP_eq_zero.2 (fun y hy he => h (lt_trans (hs.1 y hy) he))]; rfl
theorem below_there {l : List Mk} {d : Mk} (hs : Srt l) (h : d ∈ l) : l[below l d]? = some d := by
  obtain ⟨i, hi, he⟩ := List.getElem_of_mem h
  have hg : l[i]? = some d := by rw [List.getElem?_eq_getElem hi, he]
  have h1 := (below_of hs hg).2 (lt_irrefl d)
  rcases Nat.eq_or_lt_of_le h1 with e | hlt
  · rw [e]; exact hg
  · obtain ⟨y, hy⟩ : ∃ y, l[below l d]? = some y := ⟨_, List.getElem?_eq_getElem (by omega)⟩
    have h2 := hs.get hlt hy hg
    rw [below_at hy] at h2; cases h2
theorem held_there {l : List Mk} {d : Mk} (hs : Srt l) (hl : l.length ≤ 16) (h : thr l d l.length = true) : putS l d = l := putS_there (below_there hs (thr_iff.1 h)) hl
theorem held_new {l : List Mk} {d : Mk} (h : thr l d l.length = false) : putS l d = (l.take (below l d) ++ d :: l.drop (below l d)).take 16 :=
  putS_new fun e => by
    have : d ∈ l := List.mem_of_getElem? e
    rw [thr_iff.2 this] at h; cases h
theorem held_len {l : List Mk} {d : Mk} (h : thr l d l.length = false) : (putS l d).length = min (l.length + 1) 16 := by
  rw [held_new h]
  have := below_le l d
  simp
  omega
theorem held_has {l : List Mk} {d : Mk} (hs : Srt l) (hl : l.length ≤ 16) (h : thr l d l.length = false) : thr (putS l d) d (putS l d).length = decide (cnt l d l.length < 16) := by
  have hb := below_le l d
  have hc : cnt l d l.length = below l d := by unfold cnt; rw [List.take_length]; exact cnt_below hs
  have hn : d ∉ l := fun e => by rw [thr_iff.2 e] at h; cases h
  rw [hc]
  by_cases h16 : below l d < 16
  · rw [decide_eq_true h16, thr_iff, held_new h]
    refine List.mem_of_getElem? (i := below l d) ?_
    rw [List.getElem?_take, if_pos h16, List.getElem?_append_right (by rw [List.length_take]; omega), List.length_take, Nat.min_eq_left hb, Nat.sub_self]
    rfl
  · rw [decide_eq_false h16]
    apply Bool.eq_false_iff.2
    intro e
    rw [thr_iff, held_new h] at e
    have e2 : below l d = l.length := by omega
    rw [e2, List.take_length, List.take_append_of_le_length (by omega)] at e
    exact hn (List.mem_of_mem_take e)
theorem held_kept {l : List Mk} {d : Mk} (hs : Srt l) (hl : l.length ≤ 16) (h : thr l d l.length = false) : kep (putS l d) l l.length = l.length ∨ (kep (putS l d) l l.length + 1 = l.length ∧ l.length = 16) := by
  have hP := srt_putS (d := d) hs
  have hin : ∀ i p, i < 15 → l[i]? = some p → p ∈ putS l d := by
    intro i p hi hp
    rw [held_new h]
    have hil := (List.getElem?_eq_some_iff.1 hp).1
    by_cases hb : i < below l d
    · refine List.mem_of_getElem? (i := i) ?_
      rw [List.getElem?_take, if_pos (by omega), List.getElem?_append_left (by rw [List.length_take]; omega), List.getElem?_take, if_pos hb]
      exact hp
    · have hbl := below_le l d
      refine List.mem_of_getElem? (i := i + 1) ?_
      rw [List.getElem?_take, if_pos (by omega), List.getElem?_append_right (by rw [List.length_take]; omega), List.length_take, Nat.min_eq_left hbl, show i + 1 - below l d = (i - below l d) + 1 from by omega, List.getElem?_cons_succ, List.getElem?_drop, show below l d + (i - below l d) = i from by omega]
      exact hp
  by_cases h15 : l.length ≤ 15
  · exact .inl (kep_all hP _ (Nat.le_refl _) fun i p hi => hin i p (by omega))
  · have e : l.length = 16 := by omega
    have h1 := kep_all hP 15 (by omega) fun i p hi => hin i p hi
    obtain ⟨q, hq⟩ : ∃ q, l[15]? = some q := ⟨_, List.getElem?_eq_getElem (by omega)⟩
    have h2 := kep_step (P := putS l d) hq
    rw [ceq_full] at h2
    have h3 := ceq_le_one (p := q) hP
    rw [e]
    simp only [Nat.reduceAdd] at h2
    omega
end Go.Dg
