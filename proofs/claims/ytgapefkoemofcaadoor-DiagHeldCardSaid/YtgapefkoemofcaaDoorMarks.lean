/- Plain facts on lists of places with numbers: which is below which, one put into a sorted list, many put one by one; no program. -/
import Derived.RowKit
namespace Go.Dg
abbrev Mk := Int × Int
/-- Is one below another one? -/
def lt (a b : Mk) : Bool := decide (a.1 < b.1 ∨ (a.1 = b.1 ∧ a.2 < b.2))
theorem lt_iff {a b : Mk} : lt a b = true ↔ (a.1 < b.1 ∨ (a.1 = b.1 ∧ a.2 < b.2)) := decide_eq_true_iff
theorem lt_no {a b : Mk} : lt a b = false ↔ ¬ (a.1 < b.1 ∨ (a.1 = b.1 ∧ a.2 < b.2)) := decide_eq_false_iff_not
theorem lt_irrefl (a : Mk) : lt a a = false := lt_no.2 (by omega)
theorem lt_trans {a b c : Mk} (h : lt a b = true) (k : lt b c = true) : lt a c = true := by
  rw [lt_iff] at *; omega
theorem lt_asymm {a b : Mk} (h : lt a b = true) : lt b a = false := by
  rw [lt_iff] at h; rw [lt_no]; omega
theorem lt_tri {a b : Mk} (h : lt a b = false) (hne : a ≠ b) : lt b a = true := by
  rw [lt_no] at h; rw [lt_iff]
  have : ¬ (a.1 = b.1 ∧ a.2 = b.2) := fun e => hne (Prod.ext e.1 e.2)
  omega
theorem lt_ne {a b : Mk} (h : lt a b = true) : a ≠ b := by rintro rfl; rw [lt_irrefl] at h; cases h

/-- Each above the one ahead of it. -/
def Srt : List Mk → Prop
  | [] => True
  | x :: r => (∀ y ∈ r, lt x y = true) ∧ Srt r
theorem Srt.tail {x : Mk} {r : List Mk} (h : Srt (x :: r)) : Srt r := h.2
theorem Srt.take : ∀ {l : List Mk} (n : Nat), Srt l → Srt (l.take n)
  | [], _, _ => by simp [Srt]
  | x :: r, 0, _ => by simp [Srt]
  | x :: r, n + 1, h => ⟨fun y hy => h.1 y (List.mem_of_mem_take hy), Srt.take n h.2⟩
theorem Srt.get : ∀ {l : List Mk} (_ : Srt l) {i j : Nat} {a b : Mk}, i < j → l[i]? = some a → l[j]? = some b → lt a b = true
  | [], _, i, j, a, b, _, h, _ => by simp at h
  | x :: r, hs, 0, j + 1, a, b, _, h1, h2 => by
    have e : x = a := by simpa using h1
    subst e
    have h2' : r[j]? = some b := by simpa using h2
    exact hs.1 b (List.mem_of_getElem? h2')
  | x :: r, hs, i + 1, j + 1, a, b, hij, h1, h2 => Srt.get hs.2 (i := i) (j := j) (by omega) (by simpa using h1) (by simpa using h2)
theorem Srt.of_get : ∀ {l : List Mk}, (∀ i a b, l[i]? = some a → l[i + 1]? = some b → lt a b = true) → Srt l
  | [], _ => trivial
  | [x], _ => ⟨fun _ h => (List.not_mem_nil h).elim, trivial⟩
  | x :: y :: r, h => by
    have ih : Srt (y :: r) := Srt.of_get fun i a b h1 h2 => h (i + 1) a b (by simpa using h1) (by simpa using h2)
    have hxy := h 0 x y rfl rfl
    refine ⟨fun z hz => ?_, ih⟩
    rcases List.mem_cons.1 hz with rfl | hz
    · exact hxy
    · exact lt_trans hxy (ih.1 z hz)

/-- d in its place among l, unless it is there. -/
def ins (d : Mk) : List Mk → List Mk
  | [] => [d]
  | x :: r => if lt x d = true then x :: ins d r else if x = d then x :: r else d :: x :: r
def putS (l : List Mk) (d : Mk) : List Mk := (ins d l).take 16
def allS (l : List Mk) : List Mk := l.foldl putS []
theorem mem_ins {d x : Mk} : ∀ {l : List Mk}, x ∈ ins d l ↔ x = d ∨ x ∈ l
  | [] => by simp [ins]
  | y :: r => by
    unfold ins
    split
    · rw [List.mem_cons, List.mem_cons, mem_ins]
      constructor
      · rintro (h | h | h) <;> simp [h]
      · rintro (h | h | h) <;> simp [h]
    · split
      · rename_i h; subst h
        simp
      · simp
theorem srt_ins {d : Mk} : ∀ {l : List Mk}, Srt l → Srt (ins d l)
  | [], _ => ⟨fun _ h => (List.not_mem_nil h).elim, trivial⟩
  | y :: r, h => by
    unfold ins
    split
    · rename_i h1
      refine ⟨fun z hz => ?_, srt_ins h.2⟩
      rcases mem_ins.1 hz with rfl | hz
      · exact h1
      · exact h.1 z hz
    · rename_i h1
      split
      · exact h
      · rename_i h2
        have h3 : lt d y = true := lt_tri (by simpa using h1) h2
        refine ⟨fun z hz => ?_, h⟩
        rcases List.mem_cons.1 hz with rfl | hz
        · exact h3
        · exact lt_trans h3 (h.1 z hz)
theorem len_ins (d : Mk) : ∀ (l : List Mk), (ins d l).length ≤ l.length + 1
  | [] => by simp [ins]
  | y :: r => by
    unfold ins
    split
    · have := len_ins d r; simp; omega
    · split <;> simp
theorem srt_putS {l : List Mk} {d : Mk} (h : Srt l) : Srt (putS l d) := (srt_ins h).take 16
theorem len_putS (l : List Mk) (d : Mk) : (putS l d).length ≤ 16 := by unfold putS; rw [List.length_take]; omega
theorem foldl_put : ∀ (l a : List Mk), Srt a → a.length ≤ 16 → Srt (l.foldl putS a) ∧ (l.foldl putS a).length ≤ 16
  | [], _, h, k => ⟨h, k⟩
  | d :: r, a, h, _ => foldl_put r (putS a d) (srt_putS h) (len_putS a d)
theorem srt_allS (l : List Mk) : Srt (allS l) := (foldl_put l [] trivial (by simp)).1
theorem len_allS (l : List Mk) : (allS l).length ≤ 16 := (foldl_put l [] trivial (by simp)).2

/-- What is cut off is not looked at. -/
theorem take_ins (d : Mk) : ∀ (n : Nat) (l : List Mk), (ins d (l.take n)).take n = (ins d l).take n
  | 0, _ => by simp
  | n + 1, [] => by simp
  | n + 1, x :: r => by
    simp only [List.take_succ_cons, ins]
    split
    · simp only [List.take_succ_cons]; rw [take_ins d n r]
    · split
      · simp [List.take_take]
      · simp only [List.take_succ_cons]
        cases n with
        | zero => simp
        | succ m => simp [List.take_take]
def insAll (l : List Mk) (a : List Mk) : List Mk := l.foldl (fun a d => ins d a) a
theorem foldl_take : ∀ (l a : List Mk), l.foldl putS (a.take 16) = (insAll l a).take 16
  | [], a => by simp [insAll]
  | d :: r, a => by
    have e : putS (a.take 16) d = (ins d a).take 16 := take_ins d 16 a
    simp only [List.foldl_cons, insAll, e]
    exact foldl_take r (ins d a)
theorem allS_eq (l : List Mk) : allS l = (insAll l []).take 16 := by
  have := foldl_take l []
  simpa [allS] using this
theorem mem_insAll {x : Mk} : ∀ {l a : List Mk}, x ∈ insAll l a ↔ x ∈ l ∨ x ∈ a
  | [], a => by simp [insAll]
  | d :: r, a => by
    have := mem_insAll (x := x) (l := r) (a := ins d a)
    simp only [insAll, List.foldl_cons] at this ⊢
    rw [this, mem_ins, List.mem_cons]
    constructor
    · rintro (h | h | h) <;> simp [h]
    · rintro ((h | h) | h) <;> simp [h]
theorem srt_insAll : ∀ {l a : List Mk}, Srt a → Srt (insAll l a)
  | [], _, h => h
  | d :: r, _, h => srt_insAll (l := r) (srt_ins (d := d) h)
/-- Two sorted lists of the same elements are one. -/
theorem srt_ext : ∀ {a b : List Mk}, Srt a → Srt b → (∀ x, x ∈ a ↔ x ∈ b) → a = b
  | [], [], _, _, _ => rfl
  | [], y :: b, _, _, h => by have := (h y).2 (by simp); simp at this
  | x :: a, [], _, _, h => by have := (h x).1 (by simp); simp at this
  | x :: a, y :: b, ha, hb, h => by
    have e : x = y := by
      rcases List.mem_cons.1 ((h x).1 (by simp)) with e | hx
      · exact e
      · rcases List.mem_cons.1 ((h y).2 (by simp)) with e | hy
        · exact e.symm
        · have h1 := hb.1 x hx
          have h2 := ha.1 y hy
          rw [lt_asymm h1] at h2; cases h2
    subst e
    refine congrArg _ (srt_ext ha.2 hb.2 fun z => ?_)
    have hz := h z
    constructor
    · intro hza
      rcases List.mem_cons.1 (hz.1 (by simp [hza])) with rfl | h'
      · exact absurd rfl (lt_ne (ha.1 z hza))
      · exact h'
    · intro hzb
      rcases List.mem_cons.1 (hz.2 (by simp [hzb])) with rfl | h'
      · exact absurd rfl (lt_ne (hb.1 z hzb))
      · exact h'
theorem allS_perm {l m : List Mk} (h : ∀ x, x ∈ l ↔ x ∈ m) : allS l = allS m := by
  rw [allS_eq, allS_eq, srt_ext (a := insAll l []) (b := insAll m []) (srt_insAll (a := []) trivial) (srt_insAll (a := []) trivial) (fun x => by rw [mem_insAll, mem_insAll, h x])]

/-- How many are below d. -/
def below (l : List Mk) (d : Mk) : Nat := (l.takeWhile fun x => lt x d).length
theorem below_le (l : List Mk) (d : Mk) : below l d ≤ l.length := (List.takeWhile_sublist _).length_le
theorem below_lo {l : List Mk} {d : Mk} : ∀ {i : Nat} {x : Mk}, i < below l d → l[i]? = some x → lt x d = true := by
  induction l with
  | nil => intro i x _ h; simp at h
  | cons y r ih =>
    intro i x hi hx
    unfold below at hi
    rw [List.takeWhile_cons] at hi
    split at hi
    · rename_i h1
      cases i with
      | zero => have e : y = x := by simpa using hx
                subst e; exact h1
      | succ i => exact ih (i := i) (by unfold below; simp only [List.length_cons] at hi; omega) (by simpa using hx)
    · simp at hi
theorem below_at {l : List Mk} {d x : Mk} (h : l[below l d]? = some x) : lt x d = false := by
  induction l with
  | nil => simp [below] at h
  | cons y r ih =>
    unfold below at h
    rw [List.takeWhile_cons] at h
    split at h
    · exact ih (by unfold below; simpa using h)
    · rename_i h1
      have e : y = x := by simpa using h
      subst e; simpa using h1
/-- Where the list is sorted, whatever is not below d stands behind. -/
theorem below_of {l : List Mk} {d : Mk} (hs : Srt l) {k : Nat} {x : Mk} (h : l[k]? = some x) : (lt x d = true → k < below l d) ∧ (lt x d = false → below l d ≤ k) := by
  constructor
  · intro hx
    apply Nat.lt_of_not_le
    intro hk
    have hkl : k < l.length := (List.getElem?_eq_some_iff.1 h).1
    obtain ⟨y, hy⟩ : ∃ y, l[below l d]? = some y := ⟨_, List.getElem?_eq_getElem (by omega)⟩
    have h1 := below_at hy
    rcases Nat.eq_or_lt_of_le hk with e | hlt
    · rw [← e, hy] at h; cases h; rw [hx] at h1; cases h1
    · have h2 := lt_trans (hs.get hlt hy h) hx
      rw [h1] at h2; cases h2
  · intro hx
    apply Nat.le_of_not_lt
    intro hk
    rw [below_lo hk h] at hx; cases hx
theorem ins_eq {d : Mk} : ∀ {l : List Mk}, ins d l = if l[below l d]? = some d then l else l.take (below l d) ++ d :: l.drop (below l d)
  | [] => by simp [ins, below]
  | x :: r => by
    have ih := ins_eq (d := d) (l := r)
    unfold ins
    by_cases h1 : lt x d = true
    · have hb : below (x :: r) d = below r d + 1 := by unfold below; rw [List.takeWhile_cons, if_pos h1]; simp
      rw [if_pos h1, ih, hb]
      simp only [List.getElem?_cons_succ, List.take_succ_cons, List.drop_succ_cons]
      split <;> simp
    · have hb : below (x :: r) d = 0 := by unfold below; rw [List.takeWhile_cons, if_neg h1]; rfl
      rw [if_neg h1, hb]
      by_cases h2 : x = d
      · subst h2; simp
      · simp [h2]
theorem putS_there {l : List Mk} {d : Mk} (h : l[below l d]? = some d) (hl : l.length ≤ 16) : putS l d = l := by
  unfold putS; rw [ins_eq, if_pos h, List.take_of_length_le hl]
theorem putS_new {l : List Mk} {d : Mk} (h : l[below l d]? ≠ some d) : putS l d = (l.take (below l d) ++ d :: l.drop (below l d)).take 16 := by
  unfold putS; rw [ins_eq, if_neg h]
/-- The cells of a list. -/
def cellsOf (l : List Mk) : List Value := l.flatMap fun p => [.int .i64 p.1, .int .i64 p.2]
theorem cells_snoc (l : List Mk) (a b : Int) : cellsOf (l ++ [(a, b)]) = cellsOf l ++ [.int .i64 a, .int .i64 b] := by simp [cellsOf]
theorem cells_append (l m : List Mk) : cellsOf (l ++ m) = cellsOf l ++ cellsOf m := by simp [cellsOf]
theorem cells_len : ∀ (l : List Mk), (cellsOf l).length = l.length * 2
  | [] => rfl
  | x :: r => by have := cells_len r; simp only [cellsOf, List.flatMap_cons, List.length_append, List.length_cons, List.length_nil] at this ⊢; omega
theorem cells_take : ∀ (k : Nat) (l : List Mk), (cellsOf l).take (k * 2) = cellsOf (l.take k)
  | 0, _ => by simp [cellsOf]
  | k + 1, [] => by simp [cellsOf]
  | k + 1, x :: r => by
    have := cells_take k r
    simp only [cellsOf, List.flatMap_cons, List.take_succ_cons] at this ⊢
    rw [show (k + 1) * 2 = k * 2 + 1 + 1 from by omega]
    simp [this]
theorem cells_drop : ∀ (k : Nat) (l : List Mk), (cellsOf l).drop (k * 2) = cellsOf (l.drop k)
  | 0, _ => by simp
  | k + 1, [] => by simp [cellsOf]
  | k + 1, x :: r => by
    have := cells_drop k r
    simp only [cellsOf, List.flatMap_cons, List.drop_succ_cons] at this ⊢
    rw [show (k + 1) * 2 = k * 2 + 1 + 1 from by omega]
    simp [this]
theorem cells_get : ∀ {l : List Mk} {i : Nat} {a b : Int}, l[i]? = some (a, b) → (cellsOf l)[i * 2]? = some (.int .i64 a) ∧ (cellsOf l)[i * 2 + 1]? = some (.int .i64 b)
  | [], i, a, b, h => by simp at h
  | x :: r, 0, a, b, h => by
    have e : x = (a, b) := by simpa using h
    subst e; exact ⟨rfl, rfl⟩
  | x :: r, i + 1, a, b, h => by
    have := cells_get (l := r) (i := i) (a := a) (b := b) (by simpa using h)
    rw [show (i + 1) * 2 = i * 2 + 1 + 1 from by omega]
    simpa [cellsOf] using this
theorem cells_one (l : List Mk) : ∀ v ∈ cellsOf l, v.oneCell' = true := by
  intro v hv
  simp only [cellsOf, List.mem_flatMap, List.mem_cons, List.not_mem_nil, or_false] at hv
  obtain ⟨p, _, h | h⟩ := hv <;> (subst h; rfl)
theorem take_get {α : Type} {l : List α} {k : Nat} {x : α} (h : l[k]? = some x) : l.take (k + 1) = l.take k ++ [x] := by
  obtain ⟨hk, rfl⟩ := List.getElem?_eq_some_iff.1 h
  exact List.take_succ_eq_append_getElem hk
end Go.Dg
