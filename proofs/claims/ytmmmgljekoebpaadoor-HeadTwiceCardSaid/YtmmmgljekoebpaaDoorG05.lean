/- Plain facts on lists of places with numbers: which is below which, one put into a sorted list, many put one by one; no program. -/
import Derived.RowKit
import Derived.Test.YtmmmgljekoebpaaDoorProg
import Derived.WalkKit
import Derived.Lib.Hide
import Derived.Deep.DrawnRows
import Derived.Deep.RegionHeld3
import Derived.Deep.QuietTactic
import Derived.BigQuiet
import Derived.RangeFuncRecord
import Derived.Test.YtmmmgljekoebpaaDoorShelf
import Derived.Lib.LaidTab
import Derived.Lib.ItoaLen
import Derived.Laws.IdiomStrings
import Derived.Deep.LoopGhost
import Derived.Test.YtmmmgljekoebpaaDoorG03
import Derived.Test.YtmmmgljekoebpaaDoorG04
import Derived.Test.YtmmmgljekoebpaaDoorG02
import Derived.Deep.Cut
import Derived.Deep.CutRange
import Derived.Deep.CutBlock
namespace Go.Dg
abbrev Mk := Int × Int
/-- Is one below another one? -/
def lt (a b : Mk) : Bool := decide (a.1 < b.1 ∨ (a.1 = b.1 ∧ a.2 < b.2))
theorem lt_iff {a b : Mk} : lt a b = true ↔ (a.1 < b.1 ∨ (a.1 = b.1 ∧ a.2 < b.2)) := decide_eq_true_iff
theorem lt_no {a b : Mk} : lt a b = false ↔ ¬ (a.1 < b.1 ∨ (a.1 = b.1 ∧ a.2 < b.2)) := decide_eq_false_iff_not
theorem lt_irrefl (a : Mk) : lt a a = false := lt_no.2 (by omega)
theorem lt_trans {a b c : Mk} (h : lt a b = true) (k : lt b c = true) : lt a c = true := by
  rw [lt_iff] at *; omega
theorem lt_asymm {a b : Mk} (h : lt a b = true) : lt b a = false := by
  rw [lt_iff] at h; rw [lt_no]; omega
theorem lt_tri {a b : Mk} (h : lt a b = false) (hne : a ≠ b) : lt b a = true := by
  rw [lt_no] at h; rw [lt_iff]
  have : ¬ (a.1 = b.1 ∧ a.2 = b.2) := fun e => hne (Prod.ext e.1 e.2)
  omega
theorem lt_ne {a b : Mk} (h : lt a b = true) : a ≠ b := by rintro rfl; rw [lt_irrefl] at h; cases h

/-- Each above the one ahead of it. -/
def Srt : List Mk → Prop
  | [] => True
  | x :: r => (∀ y ∈ r, lt x y = true) ∧ Srt r
theorem Srt.tail {x : Mk} {r : List Mk} (h : Srt (x :: r)) : Srt r := h.2
theorem Srt.take : ∀ {l : List Mk} (n : Nat), Srt l → Srt (l.take n)
  | [], _, _ => by simp [Srt]
  | x :: r, 0, _ => by simp [Srt]
  | x :: r, n + 1, h => ⟨fun y hy => h.1 y (List.mem_of_mem_take hy), Srt.take n h.2⟩
theorem Srt.get : ∀ {l : List Mk} (_ : Srt l) {i j : Nat} {a b : Mk}, i < j → l[i]? = some a → l[j]? = some b → lt a b = true
  | [], _, i, j, a, b, _, h, _ => by simp at h
  | x :: r, hs, 0, j + 1, a, b, _, h1, h2 => by
    have e : x = a := by simpa using h1
    subst e
    have h2' : r[j]? = some b := by simpa using h2
    exact hs.1 b (List.mem_of_getElem? h2')
  | x :: r, hs, i + 1, j + 1, a, b, hij, h1, h2 => Srt.get hs.2 (i := i) (j := j) (by omega) (by simpa using h1) (by simpa using h2)
theorem Srt.of_get : ∀ {l : List Mk}, (∀ i a b, l[i]? = some a → l[i + 1]? = some b → lt a b = true) → Srt l
  | [], _ => trivial
  | [x], _ => ⟨fun _ h => (List.not_mem_nil h).elim, trivial⟩
  | x :: y :: r, h => by
    have ih : Srt (y :: r) := Srt.of_get fun i a b h1 h2 => h (i + 1) a b (by simpa using h1) (by simpa using h2)
    have hxy := h 0 x y rfl rfl
    refine ⟨fun z hz => ?_, ih⟩
    rcases List.mem_cons.1 hz with rfl | hz
    · exact hxy
    · exact lt_trans hxy (ih.1 z hz)

/-- d in its place among l, unless it is there. -/
def ins (d : Mk) : List Mk → List Mk
  | [] => [d]
  | x :: r => if lt x d = true then x :: ins d r else if x = d then x :: r else d :: x :: r
def putS (l : List Mk) (d : Mk) : List Mk := (ins d l).take 16
def allS (l : List Mk) : List Mk := l.foldl putS []
theorem mem_ins {d x : Mk} : ∀ {l : List Mk}, x ∈ ins d l ↔ x = d ∨ x ∈ l
  | [] => by simp [ins]
  | y :: r => by
    unfold ins
    split
    · rw [List.mem_cons, List.mem_cons, mem_ins]
      constructor
      · rintro (h | h | h) <;> simp [h]
      · rintro (h | h | h) <;> simp [h]
    · split
      · rename_i h; subst h
        simp
      · simp
theorem srt_ins {d : Mk} : ∀ {l : List Mk}, Srt l → Srt (ins d l)
  | [], _ => ⟨fun _ h => (List.not_mem_nil h).elim, trivial⟩
  | y :: r, h => by
    unfold ins
    split
    · rename_i h1
      refine ⟨fun z hz => ?_, srt_ins h.2⟩
      rcases mem_ins.1 hz with rfl | hz
      · exact h1
      · exact h.1 z hz
    · rename_i h1
      split
      · exact h
      · rename_i h2
        have h3 : lt d y = true := lt_tri (by simpa using h1) h2
        refine ⟨fun z hz => ?_, h⟩
        rcases List.mem_cons.1 hz with rfl | hz
        · exact h3
        · exact lt_trans h3 (h.1 z hz)
theorem len_ins (d : Mk) : ∀ (l : List Mk), (ins d l).length ≤ l.length + 1
  | [] => by simp [ins]
  | y :: r => by
    unfold ins
    split
    · have := len_ins d r; simp; omega
    · split <;> simp
theorem srt_putS {l : List Mk} {d : Mk} (h : Srt l) : Srt (putS l d) := (srt_ins h).take 16
theorem len_putS (l : List Mk) (d : Mk) : (putS l d).length ≤ 16 := by unfold putS; rw [List.length_take]; omega
theorem foldl_put : ∀ (l a : List Mk), Srt a → a.length ≤ 16 → Srt (l.foldl putS a) ∧ (l.foldl putS a).length ≤ 16
  | [], _, h, k => ⟨h, k⟩
  | d :: r, a, h, _ => foldl_put r (putS a d) (srt_putS h) (len_putS a d)
theorem srt_allS (l : List Mk) : Srt (allS l) := (foldl_put l [] trivial (by simp)).1
theorem len_allS (l : List Mk) : (allS l).length ≤ 16 := (foldl_put l [] trivial (by simp)).2

/-- What is cut off is not looked at. -/
theorem take_ins (d : Mk) : ∀ (n : Nat) (l : List Mk), (ins d (l.take n)).take n = (ins d l).take n
  | 0, _ => by simp
  | n + 1, [] => by simp
  | n + 1, x :: r => by
    simp only [List.take_succ_cons, ins]
    split
    · simp only [List.take_succ_cons]; rw [take_ins d n r]
    · split
      · simp [List.take_take]
      · simp only [List.take_succ_cons]
        cases n with
        | zero => simp
        | succ m => simp [List.take_take]
def insAll (l : List Mk) (a : List Mk) : List Mk := l.foldl (fun a d => ins d a) a
theorem foldl_take : ∀ (l a : List Mk), l.foldl putS (a.take 16) = (insAll l a).take 16
  | [], a => by simp [insAll]
  | d :: r, a => by
    have e : putS (a.take 16) d = (ins d a).take 16 := take_ins d 16 a
    simp only [List.foldl_cons, insAll, e]
    exact foldl_take r (ins d a)
theorem allS_eq (l : List Mk) : allS l = (insAll l []).take 16 := by
  have := foldl_take l []
  simpa [allS] using this
theorem mem_insAll {x : Mk} : ∀ {l a : List Mk}, x ∈ insAll l a ↔ x ∈ l ∨ x ∈ a
  | [], a => by simp [insAll]
  | d :: r, a => by
    have := mem_insAll (x := x) (l := r) (a := ins d a)
    simp only [insAll, List.foldl_cons] at this ⊢
    rw [this, mem_ins, List.mem_cons]
    constructor
    · rintro (h | h | h) <;> simp [h]
    · rintro ((h | h) | h) <;> simp [h]
theorem srt_insAll : ∀ {l a : List Mk}, Srt a → Srt (insAll l a)
  | [], _, h => h
  | d :: r, _, h => srt_insAll (l := r) (srt_ins (d := d) h)
/-- DgTwo sorted lists of the same elements are one. -/
theorem srt_ext : ∀ {a b : List Mk}, Srt a → Srt b → (∀ x, x ∈ a ↔ x ∈ b) → a = b
  | [], [], _, _, _ => rfl
  | [], y :: b, _, _, h => by have := (h y).2 (by simp); simp at this
  | x :: a, [], _, _, h => by have := (h x).1 (by simp); simp at this
  | x :: a, y :: b, ha, hb, h => by
    have e : x = y := by
      rcases List.mem_cons.1 ((h x).1 (by simp)) with e | hx
      · exact e
      · rcases List.mem_cons.1 ((h y).2 (by simp)) with e | hy
        · exact e.symm
        · have h1 := hb.1 x hx
          have h2 := ha.1 y hy
          rw [lt_asymm h1] at h2; cases h2
    subst e
    refine congrArg _ (srt_ext ha.2 hb.2 fun z => ?_)
    have hz := h z
    constructor
    · intro hza
      rcases List.mem_cons.1 (hz.1 (by simp [hza])) with rfl | h'
      · exact absurd rfl (lt_ne (ha.1 z hza))
      · exact h'
    · intro hzb
      rcases List.mem_cons.1 (hz.2 (by simp [hzb])) with rfl | h'
      · exact absurd rfl (lt_ne (hb.1 z hzb))
      · exact h'
theorem allS_perm {l m : List Mk} (h : ∀ x, x ∈ l ↔ x ∈ m) : allS l = allS m := by
  rw [allS_eq, allS_eq, srt_ext (a := insAll l []) (b := insAll m []) (srt_insAll (a := []) trivial) (srt_insAll (a := []) trivial) (fun x => by rw [mem_insAll, mem_insAll, h x])]

/-- How many are below d. -/
def below (l : List Mk) (d : Mk) : Nat := (l.takeWhile fun x => lt x d).length
theorem below_le (l : List Mk) (d : Mk) : below l d ≤ l.length := (List.takeWhile_sublist _).length_le
theorem below_lo {l : List Mk} {d : Mk} : ∀ {i : Nat} {x : Mk}, i < below l d → l[i]? = some x → lt x d = true := by
  induction l with
  | nil => intro i x _ h; simp at h
  | cons y r ih =>
    intro i x hi hx
    unfold below at hi
    rw [List.takeWhile_cons] at hi
    split at hi
    · rename_i h1
      cases i with
      | zero => have e : y = x := by simpa using hx
                subst e; exact h1
      | succ i => exact ih (i := i) (by unfold below; simp only [List.length_cons] at hi; omega) (by simpa using hx)
    · simp at hi
theorem below_at {l : List Mk} {d x : Mk} (h : l[below l d]? = some x) : lt x d = false := by
  induction l with
  | nil => simp [below] at h
  | cons y r ih =>
    unfold below at h
    rw [List.takeWhile_cons] at h
    split at h
    · exact ih (by unfold below; simpa using h)
    · rename_i h1
      have e : y = x := by simpa using h
      subst e; simpa using h1
/-- Where the list is sorted, whatever is not below d stands behind. -/
theorem below_of {l : List Mk} {d : Mk} (hs : Srt l) {k : Nat} {x : Mk} (h : l[k]? = some x) : (lt x d = true → k < below l d) ∧ (lt x d = false → below l d ≤ k) := by
  constructor
  · intro hx
    apply Nat.lt_of_not_le
    intro hk
    have hkl : k < l.length := (List.getElem?_eq_some_iff.1 h).1
    obtain ⟨y, hy⟩ : ∃ y, l[below l d]? = some y := ⟨_, List.getElem?_eq_getElem (by omega)⟩
    have h1 := below_at hy
    rcases Nat.eq_or_lt_of_le hk with e | hlt
    · rw [← e, hy] at h; cases h; rw [hx] at h1; cases h1
    · have h2 := lt_trans (hs.get hlt hy h) hx
      rw [h1] at h2; cases h2
  · intro hx
    apply Nat.le_of_not_lt
    intro hk
    rw [below_lo hk h] at hx; cases hx
theorem ins_eq {d : Mk} : ∀ {l : List Mk}, ins d l = if l[below l d]? = some d then l else l.take (below l d) ++ d :: l.drop (below l d)
  | [] => by simp [ins, below]
  | x :: r => by
    have ih := ins_eq (d := d) (l := r)
    unfold ins
    by_cases h1 : lt x d = true
    · have hb : below (x :: r) d = below r d + 1 := by unfold below; rw [List.takeWhile_cons, if_pos h1]; simp
      rw [if_pos h1, ih, hb]
      simp only [List.getElem?_cons_succ, List.take_succ_cons, List.drop_succ_cons]
      split <;> simp
    · have hb : below (x :: r) d = 0 := by unfold below; rw [List.takeWhile_cons, if_neg h1]; rfl
      rw [if_neg h1, hb]
      by_cases h2 : x = d
      · subst h2; simp
      · simp [h2]
theorem putS_there {l : List Mk} {d : Mk} (h : l[below l d]? = some d) (hl : l.length ≤ 16) : putS l d = l := by
  unfold putS; rw [ins_eq, if_pos h, List.take_of_length_le hl]
theorem putS_new {l : List Mk} {d : Mk} (h : l[below l d]? ≠ some d) : putS l d = (l.take (below l d) ++ d :: l.drop (below l d)).take 16 := by
  unfold putS; rw [ins_eq, if_neg h]
/-- The cells of a list. -/
def cellsOf (l : List Mk) : List Value := l.flatMap fun p => [.int .i64 p.1, .int .i64 p.2]
theorem cells_snoc (l : List Mk) (a b : Int) : cellsOf (l ++ [(a, b)]) = cellsOf l ++ [.int .i64 a, .int .i64 b] := by simp [cellsOf]
theorem cells_append (l m : List Mk) : cellsOf (l ++ m) = cellsOf l ++ cellsOf m := by simp [cellsOf]
theorem cells_len : ∀ (l : List Mk), (cellsOf l).length = l.length * 2
  | [] => rfl
  | x :: r => by have := cells_len r; simp only [cellsOf, List.flatMap_cons, List.length_append, List.length_cons, List.length_nil] at this ⊢; omega
theorem cells_take : ∀ (k : Nat) (l : List Mk), (cellsOf l).take (k * 2) = cellsOf (l.take k)
  | 0, _ => by simp [cellsOf]
  | k + 1, [] => by simp [cellsOf]
  | k + 1, x :: r => by
    have := cells_take k r
    simp only [cellsOf, List.flatMap_cons, List.take_succ_cons] at this ⊢
    rw [show (k + 1) * 2 = k * 2 + 1 + 1 from by omega]
    simp [this]
theorem cells_drop : ∀ (k : Nat) (l : List Mk), (cellsOf l).drop (k * 2) = cellsOf (l.drop k)
  | 0, _ => by simp
  | k + 1, [] => by simp [cellsOf]
  | k + 1, x :: r => by
    have := cells_drop k r
    simp only [cellsOf, List.flatMap_cons, List.drop_succ_cons] at this ⊢
    rw [show (k + 1) * 2 = k * 2 + 1 + 1 from by omega]
    simp [this]
theorem cells_get : ∀ {l : List Mk} {i : Nat} {a b : Int}, l[i]? = some (a, b) → (cellsOf l)[i * 2]? = some (.int .i64 a) ∧ (cellsOf l)[i * 2 + 1]? = some (.int .i64 b)
  | [], i, a, b, h => by simp at h
  | x :: r, 0, a, b, h => by
    have e : x = (a, b) := by simpa using h
    subst e; exact ⟨rfl, rfl⟩
  | x :: r, i + 1, a, b, h => by
    have := cells_get (l := r) (i := i) (a := a) (b := b) (by simpa using h)
    rw [show (i + 1) * 2 = i * 2 + 1 + 1 from by omega]
    simpa [cellsOf] using this
theorem cells_one (l : List Mk) : ∀ v ∈ cellsOf l, v.oneCell' = true := by
  intro v hv
  simp only [cellsOf, List.mem_flatMap, List.mem_cons, List.not_mem_nil, or_false] at hv
  obtain ⟨p, _, h | h⟩ := hv <;> (subst h; rfl)
theorem take_get {α : Type} {l : List α} {k : Nat} {x : α} (h : l[k]? = some x) : l.take (k + 1) = l.take k ++ [x] := by
  obtain ⟨hk, rfl⟩ := List.getElem?_eq_some_iff.1 h
  exact List.take_succ_eq_append_getElem hk
end Go.Dg
/- cmp.Compare and cmp.Or as this program calls them; the order of marks. No condition but that a list of two is what it is. -/
namespace Go.Dg
def cmpI (x y : Int) : Int := if x < y then -1 else if y < x then 1 else 0
def orI (x y : Int) : Int := if x = 0 then y else x
def cmpM (a b : Mk) : Int := orI (cmpI a.1 b.1) (cmpI a.2 b.2)
theorem cmpM_lt {a b : Mk} : cmpM a b < 0 ↔ lt a b = true := by
  rw [lt_iff]; unfold cmpM orI cmpI
  split <;> (repeat' split at *) <;> omega
theorem cmpM_eq {a b : Mk} : cmpM a b = 0 ↔ a = b := by
  unfold cmpM orI cmpI
  constructor
  · intro h
    refine Prod.ext ?_ ?_ <;> (split at h <;> (repeat' split at *) <;> omega)
  · rintro rfl
    simp
theorem cmpM_le {a b : Mk} : cmpM a b ≤ 0 ↔ lt b a = false := by
  rw [lt_no]; unfold cmpM orI cmpI
  split <;> (repeat' split at *) <;> omega
theorem cmpI_in (x y : Int) : cmpI x y = -1 ∨ cmpI x y = 0 ∨ cmpI x y = 1 := by
  unfold cmpI; split
  · exact .inl rfl
  · split
    · exact .inr (.inr rfl)
    · exact .inr (.inl rfl)
end Go.Dg
namespace Go.Proofs
open Go.RowKit Go.Dg
attribute [local go_sem] Oper.semAt_some
attribute [local go_sem ↓] Go.wp_at_zero Go.wp_at_succ

theorem ret_int' {k : IntKind} {a b : Int} (h : a = b) : Ending.returned (.int k a) = .returned (.int k b) := by rw [h]
/-- A block of two cells, of the call's own. -/
def DgTwo (W : World) (b : Nat) (x y : Value) : Prop := b < W.heap.size ∧ W.cell? ⟨b, 0, none⟩ = some x ∧ W.cell? ⟨b, 1, none⟩ = some y
theorem DgTwo.new (w : World) (x y : Value) (t : TypeId) : DgTwo (w.alloc (.cells #[x, y] t)) w.heap.size x y := by
  have e := World.alloc_heap_new w (.cells #[x, y] t)
  refine ⟨by simp, ?_, ?_⟩
  · unfold World.cell?; simp only [e]; rfl
  · unfold World.cell?; simp only [e]; rfl
theorem DgTwo.newAt {w : World} {n : Nat} (x y : Value) (t : TypeId) (h : n = w.heap.size) : DgTwo (w.alloc (.cells #[x, y] t)) n x y := by rw [h]; exact DgTwo.new w x y t
theorem DgTwo.below {B b : Nat} {W W' : World} {x y : Value} (h : DgTwo W b x y) (hb : Below B W W') (hlt : b < B) : DgTwo W' b x y :=
  ⟨Nat.lt_of_lt_of_le h.1 hb.size, (hb.cell (p := ⟨b, 0, none⟩) hlt).trans h.2.1, (hb.cell (p := ⟨b, 1, none⟩) hlt).trans h.2.2⟩
theorem DgTwo.next {b : Nat} {W W' : World} {x y : Value} (h : DgTwo W b x y) (hb : Below W.heap.size W W') : DgTwo W' b x y := h.below hb h.1
theorem DgTwo.alloc {b : Nat} {W : World} {x y : Value} (h : DgTwo W b x y) (o : Obj) : DgTwo (W.alloc o) b x y := h.next ((Below.refl _ _).alloc (Nat.le_refl _) o)
theorem DgTwo.drew {b : Nat} {W : World} {x y : Value} (h : DgTwo W b x y) : DgTwo W.drew b x y := h
/-- What the comparison holds while it goes. -/
def Held2 (w : World) (a b : Mk) (W : World) : Prop := DgTwo W w.heap.size (.int .i64 a.1) (.int .i64 a.2) ∧ DgTwo W (w.heap.size + 1) (.int .i64 b.1) (.int .i64 b.2) ∧ Below w.heap.size w W
theorem Held2.new (w : World) (a b : Mk) (t u : TypeId) : Held2 w a b ((w.alloc (.cells #[.int .i64 a.1, .int .i64 a.2] t)).alloc (.cells #[.int .i64 b.1, .int .i64 b.2] u)) :=
  ⟨(DgTwo.new _ _ _ _).alloc _, by have := DgTwo.new (w.alloc (.cells #[.int .i64 a.1, .int .i64 a.2] t)) (.int .i64 b.1) (.int .i64 b.2) u; simpa using this, ((Below.refl _ w).alloc (Nat.le_refl _) _).alloc (by simp) _⟩
theorem Held2.drew {w W : World} {a b : Mk} (h : Held2 w a b W) : Held2 w a b W.drew := ⟨h.1, h.2.1, h.2.2.drew⟩
theorem Held2.alloc {w W : World} {a b : Mk} (h : Held2 w a b W) (o : Obj) : Held2 w a b (W.alloc o) := ⟨h.1.alloc o, h.2.1.alloc o, h.2.2.alloc h.2.2.size o⟩
theorem Held2.next {w W W' : World} {a b : Mk} (h : Held2 w a b W) (hb : Below W.heap.size W W') : Held2 w a b W' := ⟨h.1.next hb, h.2.1.next hb, h.2.2.trans (hb.mono h.2.2.size)⟩
theorem held2_S {w W : World} {a b : Mk} (h : Held2 w a b W) : W.cell? ⟨w.heap.size, 0, none⟩ = some (.int .i64 a.1) ∧ W.cell? ⟨w.heap.size, 1, none⟩ = some (.int .i64 a.2) ∧ W.cell? ⟨w.heap.size + 1, 0, none⟩ = some (.int .i64 b.1) ∧ W.cell? ⟨w.heap.size + 1, 1, none⟩ = some (.int .i64 b.2) ∧ Held2 w a b W := ⟨h.1.2.1, h.1.2.2, h.2.1.2.1, h.2.1.2.2, h⟩
end Go.Proofs
/- strconv.Itoa as this program calls it, and the document's own Num: the decimal text of a number. Conditions: an int; the table of powers of ten holds what the card lays (Itoa). -/
namespace Go.Dg
theorem cat (x y : List UInt8) : (⟨x.toArray⟩ : ByteArray) ++ ⟨y.toArray⟩ = ⟨(x ++ y).toArray⟩ := by
  apply ByteArray.ext
  simp
theorem byte_of {x : Nat} (h : x < 10) : (UInt8.ofNat (48 + x)).toNat = 48 + x := by
  rw [UInt8.toNat_ofNat']; omega
/-- What the loop over the digits holds. -/
def Dig (n q : Nat) (s : List UInt8) : Prop := (s = [] ∧ q = n) ∨ (s ≠ [] ∧ q = 0 ∧ s = Lib.decDigits n) ∨ (s ≠ [] ∧ 0 < q ∧ Lib.decDigits n = Lib.decDigits q ++ s)
theorem Dig.step {n q : Nat} {s : List UInt8} (h : Dig n q s) (hq : 0 < q ∨ s = []) : Dig n (q / 10) (UInt8.ofNat (48 + q % 10) :: s) := by
  have key : Lib.decDigits n = Lib.decDigits q ++ s := by
    rcases h with ⟨rfl, rfl⟩ | ⟨h1, h2, h3⟩ | ⟨h1, h2, h3⟩
    · simp
    · rcases hq with hq | hq
      · omega
      · exact absurd hq h1
    · exact h3
  by_cases h10 : q < 10
  · refine .inr (.inl ⟨by simp, by omega, ?_⟩)
    rw [key, Lib.decDigits_one h10, Nat.mod_eq_of_lt h10]; rfl
  · refine .inr (.inr ⟨by simp, by omega, ?_⟩)
    rw [key, Lib.decDigits, dif_neg h10]; simp
theorem Dig.done {n : Nat} {s : List UInt8} (h : Dig n 0 s) (hs : s ≠ []) : s = Lib.decDigits n := by
  rcases h with ⟨h1, _⟩ | ⟨_, _, h⟩ | ⟨_, h, _⟩
  · exact absurd h1 hs
  · exact h
  · omega
theorem Dig.len {n q : Nat} {s : List UInt8} (h : Dig n q s) (hn : n < 18446744073709551616) : s.length ≤ 20 := by
  have hd : (Lib.decDigits n).length ≤ 20 := by rw [Lib.decDigits_length]; exact Lib.nDigits_le20 n hn
  rcases h with ⟨rfl, _⟩ | ⟨_, _, rfl⟩ | ⟨_, _, h⟩
  · simp
  · exact hd
  · rw [h] at hd; simp at hd; omega
end Go.Dg
namespace Go.Proofs
open Go.RowKit Go.Dg Go.Sort
attribute [local go_sem] Oper.semAt_some
attribute [local go_sem ↓] Go.wp_at_zero Go.wp_at_succ
/-- The table of powers of ten holds what the card lays. -/
def Tab (w : World) : Prop := Lib.TabIs Tryd.prog w "internal/strconv.uint64pow10" .u64 Lib.pow10Tab
theorem Tab.below {n : Nat} {w w' : World} (h : Tab w) (hb : Below n w w') (hn : w.heap.size ≤ n) : Tab w' := by
  unfold Tab Lib.TabIs World.var? at h ⊢
  cases hg : Tryd.prog.globalNamed "internal/strconv.uint64pow10" with
  | none => rw [hg] at h; cases h
  | some g =>
    rw [hg] at h
    simp only [Option.bind_some] at h ⊢
    have hlt : g < w.heap.size := by
      rcases Nat.lt_or_ge g w.heap.size with h' | h'
      · exact h'
      · rw [Array.getElem?_eq_none h'] at h; cases h
    rw [hb.block g (by omega)]
    exact h
theorem Tab.next {w w' : World} (h : Tab w) (hb : Below w.heap.size w w') : Tab w' := h.below hb (Nat.le_refl _)
theorem Tab.alloc {w : World} (h : Tab w) (o : Obj) : Tab (w.alloc o) := h.next ((Below.refl _ w).alloc (Nat.le_refl _) o)
theorem below_grow (w : World) (n : Nat) (os : Array Obj) : Below w.heap.size w (grow (w.drewN n) os) :=
  ⟨rfl, rfl, rfl, by simp [grow], fun k hk => by simp only [grow]; rw [Array.getElem?_append_left (by simpa using hk)]; simp⟩
theorem Tryd.itoa_any (n : Int) (h0 : -9223372036854775808 ≤ n) (h1 : n ≤ 9223372036854775807) (w : World) (ht : Tab w) :
    Calls Tryd.prog 25 #[.int .i64 n] w fun e w' => e = .returned (.string ⟨(Lib.itoa n).toArray⟩) ∧ Below w.heap.size w w' := by
  refine (Tryd.strconv_Itoa n h0 h1 w ht).mono fun e w' ⟨he, k, os, hw⟩ => ?_
  subst hw
  exact ⟨he, below_grow w k os⟩
end Go.Proofs
/- The document's own Num: the decimal text of a number. Conditions: an int. -/
namespace Go.Proofs
open Go.RowKit Go.Dg Go.Sort
attribute [local go_sem] Oper.semAt_some
attribute [local go_sem ↓] Go.wp_at_zero Go.wp_at_succ
/-- A byte as a text. -/
theorem one_byte (W : World) (d : Nat) (h : d < 10) : (convert 89 9 (.slice (some ⟨W.heap.size, 0, none⟩) 1 1)).run Tryd.prog (W.alloc (.cells #[.int .u8 (48 + (d : Int))] 5)) = .ok (.string ⟨[UInt8.ofNat (48 + d)].toArray⟩) (W.alloc (.cells #[.int .u8 (48 + (d : Int))] 5)) := by
  have hb : ((UInt8.ofNat (48 + d)).toNat : Int) = 48 + (d : Int) := by rw [byte_of h]; omega
  rw [← hb]
  refine run_convert_bytes_back (P := Tryd.prog) (W.alloc (.cells #[.int .u8 ((UInt8.ofNat (48 + d)).toNat : Int)] 5)) 89 9 5 ⟨W.heap.size, 0, none⟩ 1 [UInt8.ofNat (48 + d)] Tryd.underlying89 Tryd.underlying5 Tryd.underlying9 (fun j hj => ?_)
  obtain rfl : j = 0 := by simp at hj; omega
  have e := World.alloc_heap_new W (.cells #[.int .u8 ((UInt8.ofNat (48 + d)).toNat : Int)] 5)
  rw [Addr.add_lit]
  unfold World.cell?; simp only [e]; rfl
set_option maxRecDepth 100000 in
set_option maxHeartbeats 2000000 in
theorem Tryd.digits_any (n : Nat) (hn : n ≤ 9223372036854775808) (w : World) :
    Calls Tryd.prog 42 #[.int .u64 (n : Int)] w fun e w' => e = .returned (.string ⟨(Lib.decDigits n).toArray⟩) ∧ Below w.heap.size w w' := by
  go_enter Tryd.func42, Tryd.ntmps42
  go_wp2
  go_loopg [0, 3] 21 (fun g v0 v3 wr => ∃ (q : Nat) (l : List UInt8), g = 21 - l.length ∧ q ≤ 9223372036854775808 ∧ v0 = .int .u64 (q : Int) ∧ v3 = .string ⟨l.toArray⟩ ∧ l.length ≤ 20 ∧ Below w.heap.size w wr ∧ Hid (Dig n q l))
  case atStart => exact ⟨n, [], rfl, hn, rfl, rfl, by simp, Below.refl _ _, .inl ⟨rfl, rfl⟩⟩
  case round =>
    obtain ⟨q, l, hg, hq, rfl, rfl, hl, hB, HH⟩ := hrel
    obtain ⟨D, hD⟩ : ∃ D, D = UInt8.ofNat (48 + q % 10) := ⟨_, rfl⟩
    have hcv : ∀ W : World, (convert 89 9 (.slice (some ⟨W.heap.size, 0, none⟩) 1 1)).run Tryd.prog (W.alloc (.cells #[.int .u8 (48 + (q : Int) % 10)] 5)) = .ok (.string ⟨[D].toArray⟩) (W.alloc (.cells #[.int .u8 (48 + (q : Int) % 10)] 5)) := by
      intro W
      have := one_byte W (q % 10) (by omega)
      rw [hD]
      simpa using this
    have bn := Below.alloc hB hB.size (.cells #[.int .u8 (48 + (q : Int) % 10)] 5)
    by_cases h : 0 < q ∨ l = []
    · have HN : Hid (Dig n (q / 10) (D :: l)) := by rw [hD]; exact HH.out.step h
      have hl2 : (D :: l).length ≤ 20 := HN.out.len (by omega)
      have hl3 : l.length + 1 ≤ 20 := by simpa using hl2
      clear hD hl2 HH
      by_cases h0 : 0 < q
      · have hq1 : (0 : Int) < (q : Int) := by omega
        clear h
        go_wp2
        go_roundg (21 - (l.length + 1))
        case measure => omega
        case rel => exact ⟨q / 10, D :: l, by simp, by omega, by simp, by rw [show (⟨#[D]⟩ : ByteArray) = ⟨[D].toArray⟩ from rfl, cat]; rfl, by simpa using hl3, bn, HN⟩
      · obtain rfl : q = 0 := by omega
        obtain rfl : l = [] := by rcases h with h | h; omega; exact h
        have hcz : ∀ W : World, (convert 89 9 (.slice (some ⟨W.heap.size, 0, none⟩) 1 1)).run Tryd.prog (W.alloc (.cells #[.int .u8 48] 5)) = .ok (.string ⟨[D].toArray⟩) (W.alloc (.cells #[.int .u8 48] 5)) := fun W => hcv W
        have bz := Below.alloc hB hB.size (.cells #[.int .u8 48] 5)
        clear hcv h h0 bn
        go_wp2
        go_roundg (21 - (0 + 1))
        case measure => simp at hg; omega
        case rel => exact ⟨0, [D], by simp, by omega, by simp, rfl, by simp, bz, HN⟩
    · obtain rfl : q = 0 := by omega
      have hln : l ≠ [] := fun e => h (.inr e)
      have HE := Lib.hid (HH.out.done hln)
      have hne : l.isEmpty = false := by cases l with | nil => exact absurd rfl hln | cons _ _ => rfl
      clear h hcv HH bn hD hln
      go_wp2
      go_ret
      exact ⟨by rw [← HE.out]; rfl, hB⟩
theorem Tryd.Num_pos (n : Nat) (hn : n ≤ 9223372036854775807) (w : World) :
    Calls Tryd.prog 27 #[.int .i64 (n : Int)] w fun e w' => e = .returned (.string ⟨(Lib.itoa (n : Int)).toArray⟩) ∧ Below w.heap.size w w' := by
  have HD : Hid (∀ W, Calls Tryd.prog 42 #[.int .u64 (n : Int)] W fun e w' => e = .returned (.string ⟨(Lib.itoa (n : Int)).toArray⟩) ∧ Below W.heap.size W w') := fun W => by
    rw [Lib.itoa_nonneg]; exact Tryd.digits_any n (by omega) W
  go_enter Tryd.func27, Tryd.ntmps27
  go_wp2_with (go_at_call 42; (with_reducible refine (HD.out _).mono ?_); rintro e w2 ⟨rfl, hb⟩)
  go_ret
  exact ⟨rfl, hb⟩
set_option maxHeartbeats 1000000 in
theorem Tryd.Num_neg (n : Nat) (h1 : 1 ≤ n) (hn : n ≤ 9223372036854775808) (w : World) :
    Calls Tryd.prog 27 #[.int .i64 (-(n : Int))] w fun e w' => e = .returned (.string ⟨(Lib.itoa (-(n : Int))).toArray⟩) ∧ Below w.heap.size w w' := by
  have hlen : (Lib.decDigits n).length ≤ 20 := by rw [Lib.decDigits_length]; exact Lib.nDigits_le20 n (by omega)
  have HI : Hid (Lib.itoa (-(n : Int)) = 45 :: Lib.decDigits n) := Lib.itoa_neg n (by omega)
  have HD : Hid (∀ W, Calls Tryd.prog 42 #[.int .u64 (n : Int)] W fun e w' => e = .returned (.string ⟨(Lib.decDigits n).toArray⟩) ∧ Below W.heap.size W w') := fun W => Tryd.digits_any n (by omega) W
  generalize Lib.decDigits n = D at hlen HI HD
  have hneg : ¬ (0 : Int) ≤ -(n : Int) := by omega
  have e1 : IntKind.i64.wrap (-(n : Int) + 1) = -(n : Int) + 1 := by rw [IntKind.wrap_i64]; omega
  have e2 : IntKind.i64.wrap (-(-(n : Int) + 1)) = (n : Int) - 1 := by rw [IntKind.wrap_i64]; omega
  go_enter Tryd.func27, Tryd.ntmps27
  go_wp2_with (go_at_call 42; (with_reducible refine (HD.out _).mono ?_); rintro e w2 ⟨rfl, hb⟩)
  go_ret
  refine ⟨?_, hb⟩
  rw [HI.out]
  exact congrArg (fun x => Ending.returned (.string x)) (cat [45] D)
theorem Tryd.Num_any (n : Int) (h0 : -9223372036854775808 ≤ n) (h1 : n ≤ 9223372036854775807) (w : World) :
    Calls Tryd.prog 27 #[.int .i64 n] w fun e w' => e = .returned (.string ⟨(Lib.itoa n).toArray⟩) ∧ Below w.heap.size w w' := by
  by_cases h : n < 0
  · obtain ⟨m, rfl⟩ : ∃ m : Nat, n = -(m : Int) := ⟨(-n).toNat, by omega⟩
    exact Tryd.Num_neg m (by omega) (by omega) w
  · obtain ⟨m, rfl⟩ : ∃ m : Nat, n = (m : Int) := ⟨n.toNat, by omega⟩
    exact Tryd.Num_pos m (by omega) w
#print axioms Tryd.Num_any
end Go.Proofs
/- Layer 14, plainly: what the document answers of a head. No program of the layer itself. No condition. -/
namespace Go.Hdr
open Go.Wds Go.Proofs Go.Cur Go.Fx Go.Metric Go.Layout
/-- A head. -/
structure Hd where
  name : ByteArray
  kind : Int
  dim : Int
  cap : Int
  met : Int
  lay : Int
deriving DecidableEq
def hd0 : Hd := ⟨⟨#[]⟩, 0, 0, 0, 0, 0⟩
/-- A head, as a value. -/
def hdV (h : Hd) : Value := .agg #[.string h.name, .int .i64 h.kind, .int .i64 h.dim, .int .i64 h.cap, .int .i64 h.met, .int .i64 h.lay]
def hkName : ByteArray := ⟨#[78, 65, 77, 69]⟩
def hkType : ByteArray := ⟨#[84, 89, 80, 69]⟩
def hkDim : ByteArray := ⟨#[68, 73, 77, 69, 78, 83, 73, 79, 78]⟩
def hkCap : ByteArray := ⟨#[67, 65, 80, 65, 67, 73, 84, 89]⟩
def hkMet : ByteArray := ⟨#[69, 68, 71, 69, 95, 87, 69, 73, 71, 72, 84, 95, 84, 89, 80, 69]⟩
def hkLay : ByteArray := ⟨#[69, 68, 71, 69, 95, 87, 69, 73, 71, 72, 84, 95, 70, 79, 82, 77, 65, 84]⟩
def hkTsp : ByteArray := ⟨#[84, 83, 80]⟩
def hkCvrp : ByteArray := ⟨#[67, 86, 82, 80]⟩
def hkSec : ByteArray := ⟨#[95, 83, 69, 67, 84, 73, 79, 78]⟩
def hkEof : ByteArray := ⟨#[69, 79, 70]⟩
def hkCom : ByteArray := ⟨#[67, 79, 77, 77, 69, 78, 84]⟩
def hkDis : ByteArray := ⟨#[68, 73, 83, 80, 76, 65, 89, 95, 68, 65, 84, 65, 95, 84, 89, 80, 69]⟩
def hkNod : ByteArray := ⟨#[78, 79, 68, 69, 95, 67, 79, 79, 82, 68, 95, 84, 89, 80, 69]⟩
/-- Whether there may be such a head. -/
def mayH (h : Hd) : Bool := nameL h.name.data.toList && decide (1 ≤ h.dim ∧ h.dim ≤ 400) && decide (0 ≤ h.met ∧ h.met ≤ 5) && decide ((h.met = 0 ∧ 1 ≤ h.lay ∧ h.lay ≤ 7) ∨ (h.met ≠ 0 ∧ h.lay = 0)) && decide ((h.kind = 1 ∧ h.cap = 0) ∨ (h.kind = 2 ∧ 1 ≤ h.cap ∧ h.cap ≤ 100000000))
/-- Whether a text ends in another one. -/
def endsE (s t : ByteArray) : Bool := decide (t.size ≤ s.size) && decide (s.extract (s.size - t.size) s.size = t)
/-- A number of a text from one on, or 0. -/
def numE (s : ByteArray) (most : Int) : Int := if (intR s.data.toList).2 = 0 ∧ 1 ≤ (intR s.data.toList).1 ∧ (intR s.data.toList).1 ≤ most then (intR s.data.toList).1 else 0
/-- A key's place among those that are looked at. -/
def hplaceE (k : ByteArray) : Int := if k = hkName then 0 else if k = hkType then 1 else if k = hkDim then 2 else if k = hkCap then 3 else if k = hkMet then 4 else if k = hkLay then 5 else -1
/-- A value put into a head. -/
def putE (h : Hd) (k : Int) (v : ByteArray) : Hd × Bool :=
  if k = 0 then ({ h with name := v }, nameL v.data.toList)
  else if k = 1 then
    let q : Int := if v = hkCvrp then 2 else if v = hkTsp then 1 else h.kind
    ({ h with kind := q }, decide (0 < q))
  else if k = 2 then ({ h with dim := numE v 400 }, decide (0 < numE v 400))
  else if k = 3 then ({ h with cap := numE v 100000000 }, decide (0 < numE v 100000000))
  else if k = 4 then ({ h with met := (ofR v).1 }, (ofR v).2)
  else ({ h with lay := lofR v }, decide (0 < lofR v))
/-- What words.Key tells of a part that there is. -/
def keyE (s : ByteArray) (a b : Nat) : ByteArray × (Nat × Nat) × Bool :=
  if isKey (keyPart s a b) = true then
    (keyPart s a b, if seekL colB s.data.toList a b < b then trimL s.data.toList (seekL colB s.data.toList a b + 1) b else (b, b), true)
  else (⟨#[]⟩, (0, 0), false)
theorem keyE_is (s : ByteArray) (a b : Nat) (hab : a ≤ b) (hb : b ≤ s.size) : KeyIs s a b (keyE s a b).1 (keyE s a b).2.1.1 (keyE s a b).2.1.2 (keyE s a b).2.2 := by
  unfold keyE
  cases hk : isKey (keyPart s a b) with
  | false => exact .none a b hab hb hk
  | true =>
    simp only [if_true]
    by_cases h : seekL colB s.data.toList a b < b
    · rw [if_pos h]; exact .both a b hab hb hk h
    · rw [if_neg h]; exact .alone a b hab hb hk (Nat.le_antisymm (seek_le hab) (Nat.le_of_not_lt h))
/-- What was taken so far: the head, and which keys came. -/
structure Pr where
  h : Hd
  c : Nat → Bool
def pr0 : Pr := ⟨hd0, fun _ => false⟩
/-- What a row does: it ends the head, it is an error, or it is taken. -/
inductive Rs
  | stop
  | bad (at_ : Nat) (code : Int)
  | go (p : Pr)
def endB (k : ByteArray) : Bool := endsE k hkSec || decide (k = hkEof)
def skipB (k : ByteArray) : Bool := decide (k = hkCom) || decide (k = hkDis) || decide (k = hkNod)
def rowE (s : ByteArray) (p : Pr) (r : Nat × Nat × Nat) : Rs :=
  let q := keyE s r.1 r.2.1
  if endB q.1 = true then .stop
  else if q.2.2 = false then .bad r.1 3
  else if skipB q.1 = true then .go p
  else if hplaceE q.1 < 0 ∨ p.c (hplaceE q.1).toNat = true then .bad r.1 140
  else if (putE p.h (hplaceE q.1) (textI s q.2.1.1 q.2.1.2)).2 = false then .bad q.2.1.1 141
  else .go ⟨(putE p.h (hplaceE q.1) (textI s q.2.1.1 q.2.1.2)).1, fun i => p.c i || decide (i = (hplaceE q.1).toNat)⟩
/-- The whole: an error, or what was taken and where it ends. -/
def rowsE14 (s : ByteArray) : List (Nat × Nat × Nat) → Pr → (Nat × Int) ⊕ (Pr × Nat)
  | [], p => .inr (p, s.size)
  | r :: l, p => match rowE s p r with
    | .stop => .inr (p, r.1)
    | .bad a c => .inl (a, c)
    | .go q => rowsE14 s l q
def lackE (p : Pr) : Bool := !p.c 0 || !p.c 1 || !p.c 2 || !p.c 4 || (decide (p.h.kind = 2) && !p.c 3) || (decide (p.h.met = 0) && !p.c 5)
/-- What Parse tells: the head, where it ends, and what is wrong. -/
def parseE (s : ByteArray) : Hd × Nat × Nat × Int := match rowsE14 s (rowsOf s.data.toList) pr0 with
  | .inl (a, c) => (hd0, 0, a, c)
  | .inr (p, e) => if lackE p = true then (hd0, 0, e, 142) else (p.h, e, 0, 0)
def kindS (k : Int) : ByteArray := if k = 2 then hkCvrp else hkTsp
def numS (n : Int) : ByteArray := ⟨(Lib.itoa n).toArray⟩
def col : ByteArray := ⟨#[32, 58, 32]⟩
def lf : ByteArray := ⟨#[10]⟩
def lineH (k v : ByteArray) : ByteArray := k ++ col ++ v ++ lf
/-- What Print tells. -/
def printE (h : Hd) : ByteArray := if mayH h = true then
    lineH hkName h.name ++ lineH hkType (kindS h.kind) ++ lineH hkDim (numS h.dim) ++ (if h.kind = 2 then lineH hkCap (numS h.cap) else ⟨#[]⟩) ++ lineH hkMet (kwS h.met) ++ (if h.met = 0 then lineH hkLay (lkwS h.lay) else ⟨#[]⟩)
  else ⟨#[]⟩
end Go.Hdr
/- The document's own small helpers of layer 14: ends, number, place. Conditions: a text is no longer than two million bytes. -/
namespace Go.Proofs
open Go.RowKit Go.Shelf Go.Hdr Go.Fx Go.Wds
attribute [local go_sem] Oper.semAt_some
theorem htext_beq (s : ByteArray) (l : List UInt8) : (s.toList == l) = decide (s = ⟨l.toArray⟩) := by
  rw [Bool.eq_iff_iff, beq_iff_eq, decide_eq_true_iff]
  rw [Lib.toList_data]
  constructor
  · intro h
    subst h
    cases s
    simp
  · intro h
    subst h
    rfl
theorem htext_ne {s t : ByteArray} (h : ¬ s = t) : (s.toList == t.toList) = false := by
  rw [beq_eq_false_iff_ne, Lib.toList_data, Lib.toList_data]
  intro e
  apply h
  cases s
  cases t
  simp only [ByteArray.mk.injEq]
  exact Array.toList_inj.1 e
theorem place_told (s : ByteArray) (k : Int) (h : hplaceE s = k) {w : World} : Ending.returned (Value.int .i64 k) = Ending.returned (Value.int .i64 (hplaceE s)) ∧ w = w := by subst h; exact ⟨rfl, rfl⟩
end Go.Proofs
/- The document's own May of layer 14. Conditions: a name is no longer than two million bytes. -/
namespace Go.Proofs
open Go.RowKit Go.Shelf Go.Hdr Go.Fx Go.Wds
attribute [local go_sem] Oper.semAt_some
set_option linter.unusedSimpArgs false
theorem may_told (h : Hd) (b : Bool) (e : mayH h = b) {q : Prop} (hb : q) : Ending.returned (Value.bool b) = Ending.returned (Value.bool (mayH h)) ∧ q := by subst e; exact ⟨rfl, hb⟩
set_option maxRecDepth 100000 in
set_option maxHeartbeats 8000000 in
theorem Tryd.rhmay_calls (h : Hd) (w : World) (hs : h.name.size ≤ 9223372036854775807) :
    Calls Tryd.prog 11 #[hdV h] w fun e w' => e = .returned (.bool (mayH h)) ∧ Below w.heap.size w w' := by
  obtain ⟨nm, k, d, c, m, l⟩ := h
  unfold hdV
  have RN := fun w => Tryd.rName_calls nm w hs
  go_enter Tryd.func11, Tryd.ntmps11
  go_wp2_with (go_at_call 23; (with_reducible refine (RN _).mono ?_); rintro e w1 ⟨rfl, hw1⟩; subst hw1)
  all_goals
    go_ret
    refine may_told _ _ ?_ ((Below.refl _ _).alloc (Nat.le_refl _) _)
    unfold mayH
    rw [Bool.eq_iff_iff]
    simp only [Bool.and_eq_true, Bool.or_eq_true, Bool.or_eq_false_iff, decide_eq_true_eq, decide_eq_false_iff_not, Bool.false_eq_true, Bool.true_eq, iff_false, iff_true, Bool.not_eq_true, Bool.not_eq_false, Bool.not_eq_eq_eq_not, Bool.not_true, Bool.not_false] at *
    first
      | (simp_all; done)
      | (intro hh; simp_all; omega)
      | (refine ⟨⟨⟨⟨?_, ?_⟩, ?_⟩, ?_⟩, ?_⟩ <;> first | assumption | omega)
      | trace_state
#print axioms Tryd.rhmay_calls
end Go.Proofs
/- The document's own put of layer 14. Conditions: a text is no longer than two million bytes. -/
namespace Go.Proofs
open Go.RowKit Go.Shelf Go.Hdr Go.Fx Go.Wds Go.Metric Go.Layout
attribute [local go_sem] Oper.semAt_some
theorem below_two_n (w : World) (o o' : Obj) : Below w.heap.size w ((w.alloc o).alloc o') := by
  have h : Below w.heap.size w (w.alloc o) := (Below.refl _ _).alloc (Nat.le_refl _) _
  exact h.alloc h.size o'
theorem below_two_h (w : World) (o o' : Obj) : Below w.heap.size w ((w.alloc o).alloc o').drew := by
  have h : Below w.heap.size w (w.alloc o) := (Below.refl _ _).alloc (Nat.le_refl _) _
  have h2 := h.alloc h.size o'
  exact ⟨h2.os, h2.tape, h2.output, h2.size, h2.block⟩
end Go.Proofs
/- The document's own Parse of layer 14. Conditions: a text of at most a million bytes. -/
namespace Go.Hdr
open Go.Wds Go.Proofs Go.Cur Go.Fx Go.Metric Go.Layout
/-- The six cells of a head. -/
def hdC (h : Hd) : Array Value := #[.string h.name, .int .i64 h.kind, .int .i64 h.dim, .int .i64 h.cap, .int .i64 h.met, .int .i64 h.lay]
def cmC (c : Nat → Bool) : Array Value := #[.bool (c 0), .bool (c 1), .bool (c 2), .bool (c 3), .bool (c 4), .bool (c 5)]
theorem rowsE14_cons (s : ByteArray) (r : Nat × Nat × Nat) (l : List (Nat × Nat × Nat)) (p : Pr) : rowsE14 s (r :: l) p = match rowE s p r with
    | .stop => .inr (p, r.1)
    | .bad a c => .inl (a, c)
    | .go q => rowsE14 s l q := by
  conv => lhs; unfold rowsE14
  all_goals (cases rowE s p r <;> rfl)
end Go.Hdr
namespace Go
open Go.RowKit
/-- A box of six cells, filled. -/
theorem six_own {W : World} {B : Nat} {x0 x1 x2 x3 x4 x5 v0 v1 v2 v3 v4 v5 : Value} {t : TypeId} (h : W.heap[B]? = some (.cells #[x0, x1, x2, x3, x4, x5] t)) : ((((((W.setCell ⟨B, 0, none⟩ v0).setCell ⟨B, 1, none⟩ v1).setCell ⟨B, 2, none⟩ v2).setCell ⟨B, 3, none⟩ v3).setCell ⟨B, 4, none⟩ v4).setCell ⟨B, 5, none⟩ v5).heap[B]? = some (.cells #[v0, v1, v2, v3, v4, v5] t) := by
  simp [World.setCell, Array.getElem?_modify, h]
theorem six_other {W : World} {B k : Nat} {v0 v1 v2 v3 v4 v5 : Value} (hk : k ≠ B) : ((((((W.setCell ⟨B, 0, none⟩ v0).setCell ⟨B, 1, none⟩ v1).setCell ⟨B, 2, none⟩ v2).setCell ⟨B, 3, none⟩ v3).setCell ⟨B, 4, none⟩ v4).setCell ⟨B, 5, none⟩ v5).heap[k]? = W.heap[k]? := by
  iterate 6 rw [Below.heap_setCell _ _ _ _ (by exact hk)]
theorem six_size {W : World} {B : Nat} {v0 v1 v2 v3 v4 v5 : Value} : ((((((W.setCell ⟨B, 0, none⟩ v0).setCell ⟨B, 1, none⟩ v1).setCell ⟨B, 2, none⟩ v2).setCell ⟨B, 3, none⟩ v3).setCell ⟨B, 4, none⟩ v4).setCell ⟨B, 5, none⟩ v5).heap.size = W.heap.size := by
  simp [World.setCell]
theorem six_below {N : Nat} {w W : World} {B : Nat} {v0 v1 v2 v3 v4 v5 : Value} (h : Below N w W) (hN : N ≤ B) : Below N w ((((((W.setCell ⟨B, 0, none⟩ v0).setCell ⟨B, 1, none⟩ v1).setCell ⟨B, 2, none⟩ v2).setCell ⟨B, 3, none⟩ v3).setCell ⟨B, 4, none⟩ v4).setCell ⟨B, 5, none⟩ v5) :=
  (((((h.setCell hN _).setCell hN _).setCell hN _).setCell hN _).setCell hN _).setCell hN _
end Go
namespace Go.Proofs
open Go.RowKit Go.Shelf Go.Hdr Go.Fx Go.Wds Go.Metric Go.Layout Go.Cur
attribute [local go_sem] Oper.semAt_some
theorem own_set_h {W : World} {base : Nat} {e : TypeId} {size : Nat} {v : Value} {k : Nat} {xs : List Value} (h : W.ownsRow base e size v k xs) {a : Addr} (ha : a.block < base) (u : Value) : (W.setCell a u).ownsRow base e size v k xs :=
  h.kept (row := some a.block) ⟨rfl, rfl, rfl, by simp [World.setCell], fun k _ hk => Below.heap_setCell _ _ _ _ (fun e => hk (by rw [e]))⟩ (.inr fun e => by have := (h.lt _ e).1; omega)
theorem hbox_cell {W : World} {B : Nat} {cs : Array Value} {t : TypeId} (h : W.heap[B]? = some (.cells cs t)) (j : Nat) : W.cell? ⟨B, j, none⟩ = cs[j]? ∧ W.frozen? ⟨B, j, none⟩ = false := by
  refine ⟨?_, ?_⟩
  · unfold World.cell?; rw [h]; rfl
  · unfold World.frozen?; rw [h]; rfl
theorem hline_cells {W : World} {base g n c : Nat} {e : TypeId} {L : List (Nat × Nat × Nat)} (h : W.ownsRow base e 3 (.slice (some ⟨g, 0, none⟩) n c) L.length (lineCells L)) {k a b d : Nat} (hk : L[k]? = some (a, b, d)) :
    W.cell? ⟨g, k * 3, none⟩ = some (.int .i64 (a : Nat)) ∧ W.cell? ⟨g, k * 3 + 1, none⟩ = some (.int .i64 (b : Nat)) := by
  have hc := World.ownsRow.cells h (g := g) rfl
  have hg : ∀ (L : List (Nat × Nat × Nat)) (k : Nat), L[k]? = some (a, b, d) → (lineCells L)[k * 3]? = some (.int .i64 (a : Nat)) ∧ (lineCells L)[k * 3 + 1]? = some (.int .i64 (b : Nat)) := by
    intro L
    induction L with
    | nil => intro k hk; simp at hk
    | cons p L ih =>
      intro k hk
      cases k with
      | zero =>
        have e : p = (a, b, d) := by simpa using hk
        subst e
        exact ⟨rfl, rfl⟩
      | succ k =>
        have := ih k (by simpa using hk)
        have e : ∀ j, (lineCells (p :: L))[(k + 1) * 3 + j]? = (lineCells L)[k * 3 + j]? := fun j => by
          rw [show (k + 1) * 3 + j = (k * 3 + j) + 1 + 1 + 1 from by omega]; rfl
        exact ⟨(e 0).trans this.1, (e 1).trans this.2⟩
  obtain ⟨h1, h2⟩ := hg L k hk
  have h3 := hc _ _ h1
  have h4 := hc _ _ h2
  rw [Addr.add_lit, Nat.zero_add] at h3 h4
  exact ⟨h3, h4⟩
end Go.Proofs
/- The document's own Parse of layer 14, walked. Conditions: a text of at most a million bytes. -/
namespace Go
open Go.RowKit
theorem pair_own_h {W : World} {B : Nat} {x0 x1 v0 v1 : Value} {t : TypeId} (h : W.heap[B]? = some (.cells #[x0, x1] t)) : ((W.setCell ⟨B, 0, none⟩ v0).setCell ⟨B, 1, none⟩ v1).heap[B]? = some (.cells #[v0, v1] t) := by
  simp [World.setCell, Array.getElem?_modify, h]
theorem below_one_h (w : World) (o : Obj) : Below w.heap.size w (w.alloc o) := (Below.refl _ w).alloc (Nat.le_refl _) _
end Go
namespace Go.Hdr
open Go.Wds Go.Proofs Go.Cur Go.Fx Go.Metric Go.Layout
/-- What is told at last. -/
def PE : (Nat × Int) ⊕ (Pr × Nat) → Hd × Nat × Nat × Int
  | .inl (a, c) => (hd0, 0, a, c)
  | .inr (p, e) => if lackE p = true then (hd0, 0, e, 142) else (p.h, e, 0, 0)
theorem parseE_PE (s : ByteArray) : parseE s = PE (rowsE14 s ((rowsOf s.data.toList).drop 0) pr0) := by
  unfold parseE
  rw [List.drop_zero]
  cases rowsE14 s (rowsOf s.data.toList) pr0 <;> rfl
theorem PE_nil (s : ByteArray) (p : Pr) : PE (rowsE14 s [] p) = PE (.inr (p, s.size)) := rfl
theorem PE_stop {s : ByteArray} {r : Nat × Nat × Nat} {l : List (Nat × Nat × Nat)} {p : Pr} (h : rowE s p r = .stop) : PE (rowsE14 s (r :: l) p) = PE (.inr (p, r.1)) := by rw [rowsE14_cons, h]
theorem PE_bad {s : ByteArray} {r : Nat × Nat × Nat} {l : List (Nat × Nat × Nat)} {p : Pr} {a : Nat} {c : Int} (h : rowE s p r = .bad a c) : PE (rowsE14 s (r :: l) p) = (hd0, 0, a, c) := by rw [rowsE14_cons, h]; rfl
theorem PE_go {s : ByteArray} {r : Nat × Nat × Nat} {l : List (Nat × Nat × Nat)} {p q : Pr} (h : rowE s p r = .go q) : PE (rowsE14 s (r :: l) p) = PE (rowsE14 s l q) := by rw [rowsE14_cons, h]
/-- What a row does, by its key and its value. -/
def rowQ (s : ByteArray) (p : Pr) (a : Nat) (q : ByteArray × (Nat × Nat) × Bool) : Rs :=
  if endB q.1 = true then .stop
  else if q.2.2 = false then .bad a 3
  else if skipB q.1 = true then .go p
  else if hplaceE q.1 < 0 ∨ p.c (hplaceE q.1).toNat = true then .bad a 140
  else if (putE p.h (hplaceE q.1) (textI s q.2.1.1 q.2.1.2)).2 = false then .bad q.2.1.1 141
  else .go ⟨(putE p.h (hplaceE q.1) (textI s q.2.1.1 q.2.1.2)).1, fun i => p.c i || decide (i = (hplaceE q.1).toNat)⟩
theorem keyE_size (s : ByteArray) (a b : Nat) : (keyE s a b).1.size ≤ s.size := by
  unfold keyE
  split
  · show (keyPart s a b).size ≤ s.size
    unfold keyPart
    rw [ByteArray.size_extract]; omega
  · exact Nat.zero_le _
end Go.Hdr
namespace Go.Proofs
open Go.RowKit Go.Shelf Go.Hdr Go.Fx Go.Wds Go.Metric Go.Layout Go.Cur
attribute [local go_sem] Oper.semAt_some
theorem below_drew_h {B : Nat} {a w : World} (h : Below B a w) : Below B a w.drew := ⟨h.os, h.tape, h.output, h.size, h.block⟩
theorem own_set_b {W : World} {base : Nat} {e : TypeId} {size : Nat} {v : Value} {k : Nat} {xs : List Value} (h : W.ownsRow base e size v k xs) {a : Addr} (ha : v.ownBlock = some a.block → False) (u : Value) : (W.setCell a u).ownsRow base e size v k xs :=
  h.kept (row := some a.block) ⟨rfl, rfl, rfl, by simp [World.setCell], fun k _ hk => Below.heap_setCell _ _ _ _ (fun e => hk (by rw [e]))⟩ (.inr ha)
theorem howns_slice {W : World} {base size n : Nat} {e : TypeId} {v : Value} {xs : List Value} (h : W.ownsRow base e size v n xs) : ∃ a c, v = .slice a n c := by
  rcases h.2 with ⟨rfl, rfl⟩ | ⟨g, cap, cur, rfl, _⟩
  · exact ⟨none, 0, rfl⟩
  · exact ⟨_, cap, rfl⟩
theorem place_le (k : ByteArray) : hplaceE k ≤ 5 := by
  unfold hplaceE
  repeat' split
  all_goals omega


end Go.Proofs
/- A head in a block of its own; texts of keywords are short. No program. -/
namespace Go.Proofs
open Go.RowKit Go.Shelf Go.Hdr Go.Fx Go.Wds Go.Metric Go.Layout
/-- A head in a block of its own. -/
structure HdBox (W : World) (B : Nat) (nm : ByteArray) (k d c m l : Int) : Prop where
  lt : B < W.heap.size
  c0 : W.cell? ⟨B, 0, none⟩ = some (.string nm)
  c1 : W.cell? ⟨B, 1, none⟩ = some (.int .i64 k)
  c2 : W.cell? ⟨B, 2, none⟩ = some (.int .i64 d)
  c3 : W.cell? ⟨B, 3, none⟩ = some (.int .i64 c)
  c4 : W.cell? ⟨B, 4, none⟩ = some (.int .i64 m)
  c5 : W.cell? ⟨B, 5, none⟩ = some (.int .i64 l)
theorem hdcell (W : World) (cs : Array Value) (t : TypeId) (j : Nat) : (W.alloc (.cells cs t)).cell? ⟨W.heap.size, j, none⟩ = cs[j]? := by
  unfold World.cell?
  rw [World.alloc_heap_new]
  rfl
theorem HdBox.new (w : World) (nm : ByteArray) (k d c m l : Int) (t : TypeId) : HdBox (w.alloc (.cells #[.string nm, .int .i64 k, .int .i64 d, .int .i64 c, .int .i64 m, .int .i64 l] t)) w.heap.size nm k d c m l :=
  ⟨by simp, hdcell _ _ _ _, hdcell _ _ _ _, hdcell _ _ _ _, hdcell _ _ _ _, hdcell _ _ _ _, hdcell _ _ _ _⟩
theorem HdBox.next {W W' : World} {B : Nat} {nm : ByteArray} {k d c m l : Int} (h : HdBox W B nm k d c m l) (hb : Below W.heap.size W W') : HdBox W' B nm k d c m l :=
  ⟨Nat.lt_of_lt_of_le h.lt hb.size, (hb.cell (p := ⟨B, 0, none⟩) h.lt).trans h.c0, (hb.cell (p := ⟨B, 1, none⟩) h.lt).trans h.c1, (hb.cell (p := ⟨B, 2, none⟩) h.lt).trans h.c2, (hb.cell (p := ⟨B, 3, none⟩) h.lt).trans h.c3, (hb.cell (p := ⟨B, 4, none⟩) h.lt).trans h.c4, (hb.cell (p := ⟨B, 5, none⟩) h.lt).trans h.c5⟩
theorem hd_below (w : World) (o : Obj) {w1 : World} (h : Below (w.alloc o).heap.size (w.alloc o) w1) : Below w.heap.size w w1 := by
  have h1 : Below w.heap.size w (w.alloc o) := (Below.refl _ _).alloc (Nat.le_refl _) _
  exact h1.trans (h.mono h1.size)
theorem hd_told {v v' : Value} {q : Prop} (e : v = v') (h : q) : Ending.returned v = Ending.returned v' ∧ q := ⟨congrArg _ e, h⟩
theorem HdBox.drew {W : World} {B : Nat} {nm : ByteArray} {k d c m l : Int} (h : HdBox W B nm k d c m l) : HdBox W.drew B nm k d c m l := ⟨h.lt, h.c0, h.c1, h.c2, h.c3, h.c4, h.c5⟩
theorem below_drew_hd (w1 : World) {w2 : World} (h : Below w1.drew.heap.size w1.drew w2) : Below w1.heap.size w1 w2 := ⟨h.os, h.tape, h.output, h.size, h.block⟩
theorem kw_short (m : Int) : (kwS m).size ≤ 8 := by
  unfold kwS
  repeat' split
  all_goals decide
theorem lkw_short (m : Int) : (lkwS m).size ≤ 14 := by
  unfold lkwS
  repeat' split
  all_goals decide
end Go.Proofs
