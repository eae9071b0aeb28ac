/- Plain facts: rows of a text, what their words tell. No program. -/
import Derived.Test.YtiedogcekalfjaaG01
import Derived.Test.YtiedogcekalfjaaG02
import Derived.Shelf.Abstract
import Derived.Shelf.RegionOpen
import Derived.WalkKit
import Derived.LoopNIn
import Derived.LoopIn
import Derived.Lib.OthersKept
import Derived.Lib.Hide
import Derived.Laws.AppendOwn
import Derived.Laws.OwnMore
import Derived.Lib.QuietBelow
import Derived.RangeFuncRecord
import Derived.Deep.QuietTactic
import Derived.BigQuiet
import Derived.Test.YtiedogcekalfjaaProg
import Derived.Laws.MakeOwn
namespace Go.Sheet
open Go.Cur Go.Wds Go.Proofs Go.Fx
/-- A row: where it begins, and its words. -/
abbrev Rw := Nat × List (Nat × Nat)
/-- Whether a line's row begins from a place on. -/
def fromB (k : Int) (p : Nat × Nat × Nat) : Bool := decide (k ≤ (p.1 : Int))
def rowW (s : ByteArray) (p : Nat × Nat × Nat) : Rw := (p.1, wordsL s.data.toList p.1 p.2.1)
/-- sheet.Rows. -/
def rowsE (s : ByteArray) (k : Int) : List Rw := ((rowsOf s.data.toList).filter (fromB k)).map (rowW s)
theorem rowsE_step {s : ByteArray} {k : Int} {i : Nat} {p : Nat × Nat × Nat} (h : (rowsOf s.data.toList)[i]? = some p) :
    (((rowsOf s.data.toList).take (i + 1)).filter (fromB k)).map (rowW s) = (((rowsOf s.data.toList).take i).filter (fromB k)).map (rowW s) ++ (if fromB k p = true then [rowW s p] else []) := by
  rw [Go.Wds.take_get h, List.filter_append, List.map_append]
  cases hq : fromB k p <;> simp [hq]
/-- A word's text. -/
def wordT (s : ByteArray) (w : Nat × Nat) : ByteArray := textI s (w.1 : Int) (w.2 : Int)
theorem wordT_size (s : ByteArray) (w : Nat × Nat) : (wordT s w).size ≤ s.size := by
  unfold wordT textI
  split
  · rw [ByteArray.size_extract]; omega
  · exact Nat.zero_le _
/-- The texts of the first words, with a blank between each two. -/
def titleN (s : ByteArray) (ws : List (Nat × Nat)) : Nat → ByteArray
  | 0 => ⟨#[]⟩
  | k + 1 => (if k = 0 then ⟨#[]⟩ else titleN s ws k ++ ⟨#[32]⟩) ++ wordT s (ws.getD k (0, 0))
theorem titleN_size (s : ByteArray) (ws : List (Nat × Nat)) (hs : s.size ≤ 1000) : ∀ k, (titleN s ws k).size ≤ k * 1001
  | 0 => Nat.zero_le _
  | k + 1 => by
    have h1 := titleN_size s ws hs k
    have h2 := wordT_size s (ws.getD k (0, 0))
    have e : (titleN s ws (k + 1)).size ≤ (titleN s ws k).size + 1 + (wordT s (ws.getD k (0, 0))).size := by
      rw [titleN, ByteArray.size_append]
      split
      · have h0 : (⟨#[]⟩ : ByteArray).size = 0 := rfl
        omega
      · rw [ByteArray.size_append]; exact Nat.le_refl _
    omega
def titleB (s : ByteArray) (ws : List (Nat × Nat)) (t : ByteArray) : Bool := (titleN s ws ws.length).toList == t.toList
/-- What words tell: all, or the first that tells nothing, and its error. -/
def takeW {α : Type} (rd : Nat × Nat → α × Int) (l : List (Nat × Nat)) : List α × Nat × Int :=
  match l.find? fun w => decide ((rd w).2 ≠ 0) with
  | some w => ([], w.1, (rd w).2)
  | none => (l.map fun w => (rd w).1, 0, 0)
theorem takeW_bad {α : Type} {rd : Nat × Nat → α × Int} {l : List (Nat × Nat)} {k : Nat} {w : Nat × Nat} (h : l[k]? = some w) (ha : ∀ v ∈ l.take k, (rd v).2 = 0) (hb : (rd w).2 ≠ 0) : takeW rd l = ([], w.1, (rd w).2) := by
  have e : l.find? (fun w => decide ((rd w).2 ≠ 0)) = some w := by
    obtain ⟨hk, rfl⟩ := List.getElem?_eq_some_iff.1 h
    have h0 : l = l.take k ++ l[k] :: l.drop (k + 1) := by rw [← List.drop_eq_getElem_cons hk, List.take_append_drop]
    have h1 : (l.take k).find? (fun w => decide ((rd w).2 ≠ 0)) = none := by
      rw [List.find?_eq_none]
      intro v hv
      simp [ha v hv]
    generalize l[k] = w at *
    rw [h0, List.find?_append, h1]
    simp [hb]
  unfold takeW; rw [e]
theorem takeW_all {α : Type} {rd : Nat × Nat → α × Int} {l : List (Nat × Nat)} (ha : ∀ v ∈ l, (rd v).2 = 0) : takeW rd l = (l.map fun w => (rd w).1, 0, 0) := by
  have e : l.find? (fun w => decide ((rd w).2 ≠ 0)) = none := by
    rw [List.find?_eq_none]
    intro v hv
    simp [ha v hv]
  unfold takeW; rw [e]
/-- fixed.Int at a word. -/
def rdI (s : ByteArray) (w : Nat × Nat) : Int × Int := ((intN (wordT s w).data.toList).1, (intN (wordT s w).data.toList).2.2)
/-- fixed.Read at a word. -/
def rdR (s : ByteArray) (w : Nat × Nat) : (Int × Nat) × Int := (((readN (wordT s w).data.toList).1, (readN (wordT s w).data.toList).2.1), (readN (wordT s w).data.toList).2.2)
def intsE (s : ByteArray) (p : Rw) (n : Int) : List Int × Nat × Int := if (p.2.length : Int) = n then takeW (rdI s) p.2 else ([], p.1, 3)
def numsE (s : ByteArray) (p : Rw) (skip : Int) : List (Int × Nat) × Nat × Int := takeW (rdR s) (p.2.drop skip.toNat)
/-- sheet.Flat, from a row on, so many numbers left. -/
def flatE (s : ByteArray) : List Rw → Nat → List Int × Nat × Nat × Int
  | _, 0 => ([], 0, 0, 0)
  | [], _ + 1 => ([], 0, s.size, 4)
  | p :: l, n + 1 =>
    if (takeW (rdI s) (p.2.take (n + 1))).2.2 ≠ 0 then ([], 0, (takeW (rdI s) (p.2.take (n + 1))).2.1, (takeW (rdI s) (p.2.take (n + 1))).2.2)
    else if n + 1 < p.2.length then ([], 0, (p.2.getD (n + 1) (0, 0)).1, 3)
    else if (flatE s l (n + 1 - p.2.length)).2.2.2 ≠ 0 then ([], 0, (flatE s l (n + 1 - p.2.length)).2.2.1, (flatE s l (n + 1 - p.2.length)).2.2.2)
    else (p.2.map (fun w => (rdI s w).1) ++ (flatE s l (n + 1 - p.2.length)).1, (flatE s l (n + 1 - p.2.length)).2.1 + 1, 0, 0)
end Go.Sheet
/- Plain facts on instances: what may be, their faults, their normal form; no program. -/
namespace Go.Canon
/-- A node: the depot, or a customer. -/
structure Nd where
  x : Int
  y : Int
  demand : Int
  ready : Int
  due : Int
  service : Int
  mate : Int
/-- An instance. -/
structure Ins where
  name : ByteArray
  kind : Int
  metric : Int
  scale : Int
  cap : Int
  fleet : Int
  nodes : List Nd
  matrix : List Int
theorem Nd.ext' {a b : Nd} (h1 : a.x = b.x) (h2 : a.y = b.y) (h3 : a.demand = b.demand) (h4 : a.ready = b.ready) (h5 : a.due = b.due) (h6 : a.service = b.service) (h7 : a.mate = b.mate) : a = b := by
  cases a; cases b; simp_all
instance : DecidableEq Nd := fun a b =>
  if h : a.x = b.x ∧ a.y = b.y ∧ a.demand = b.demand ∧ a.ready = b.ready ∧ a.due = b.due ∧ a.service = b.service ∧ a.mate = b.mate then
    isTrue (Nd.ext' h.1 h.2.1 h.2.2.1 h.2.2.2.1 h.2.2.2.2.1 h.2.2.2.2.2.1 h.2.2.2.2.2.2)
  else isFalse fun e => h (by rw [e]; exact ⟨rfl, rfl, rfl, rfl, rfl, rfl, rfl⟩)
def zeroNd : Nd := ⟨0, 0, 0, 0, 0, 0, 0⟩
def number (n : Int) : Bool := decide (0 ≤ n) && decide (n ≤ 100000000)
def signed (n : Int) : Bool := decide (-100000000 ≤ n) && decide (n ≤ 100000000)
def at' (x : Ins) (i : Nat) : Nd := x.nodes.getD i zeroNd
/-! What may be. -/
def matrixB (x : Ins) : Bool :=
  if x.metric ≠ 0 then decide (x.matrix.length = 0)
  else decide (x.matrix.length = x.nodes.length * x.nodes.length) && (List.range (x.nodes.length * x.nodes.length)).all fun i => number (x.matrix.getD i 0) && !(decide (i % (x.nodes.length + 1) = 0) && decide (x.matrix.getD i 0 ≠ 0))
def coordB (metric : Int) (d : Nd) : Bool := signed d.x && signed d.y && (decide (metric ≠ 0) || (decide (d.x = 0) && decide (d.y = 0)))
def demandB (kind : Int) (i : Nat) (d : Nd) : Bool := if kind = 1 ∨ i = 0 then decide (d.demand = 0) else number d.demand || (decide (kind = 4) && signed d.demand)
def windowB (kind : Int) (d : Nd) : Bool := if kind = 1 ∨ kind = 2 then decide (d.ready = 0) && decide (d.due = 0) else number d.ready && number d.due && decide (d.ready ≤ d.due)
def serviceB (kind : Int) (d : Nd) : Bool := if kind = 1 ∨ kind = 2 then decide (d.service = 0) else number d.service
/-- A demand turned over, in 64 bits. -/
def neg64 (a : Int) : Int := if (-a) % 18446744073709551616 ≥ 9223372036854775808 then (-a) % 18446744073709551616 - 18446744073709551616 else (-a) % 18446744073709551616
def mateB (x : Ins) (i : Nat) : Bool :=
  if x.kind ≠ 4 ∨ i = 0 then decide ((at' x i).mate = 0)
  else if (at' x i).mate < 1 ∨ (x.nodes.length : Int) ≤ (at' x i).mate ∨ (at' x i).mate = (i : Int) ∨ (at' x (at' x i).mate.toNat).mate ≠ (i : Int) then false
  else decide ((at' x i).demand ≠ 0) && decide ((at' x (at' x i).mate.toNat).demand = neg64 (at' x i).demand)
/-! The faults. -/
def says (b : Bool) (f : Nat) (n : Nat) : List (Nat × Nat) := if b = true then [] else [(f, n)]
def scaleB (metric scale : Int) : Bool := decide (0 ≤ scale) && decide (scale ≤ 6) && !(decide (metric = 0) && decide (scale ≠ 0))
def capB (kind cap : Int) : Bool := if kind = 1 then decide (cap = 0) else decide (1 ≤ cap) && decide (cap ≤ 100000000)
def fleetB (kind fleet : Int) : Bool := if kind = 1 then decide (fleet = 0) else decide (0 ≤ fleet) && decide (fleet ≤ 400)
def kindB (kind : Int) : Bool := decide (1 ≤ kind) && decide (kind ≤ 4)
def metricB (metric : Int) : Bool := decide (0 ≤ metric) && decide (metric ≤ 6)
def heads (N : ByteArray → Bool) (x : Ins) : List (Nat × Nat) :=
  says (N x.name) 1 0 ++ says (kindB x.kind) 2 0 ++ says (metricB x.metric) 3 0 ++ says (scaleB x.metric x.scale) 4 0 ++ says (capB x.kind x.cap) 5 0 ++ says (fleetB x.kind x.fleet) 6 0
def nodeF (x : Ins) (i : Nat) : List (Nat × Nat) :=
  says (coordB x.metric (at' x i)) 9 i ++ says (demandB x.kind i (at' x i)) 10 i ++ says (windowB x.kind (at' x i)) 11 i ++ says (serviceB x.kind (at' x i)) 12 i ++ says (mateB x i) 13 i
def nodesF (x : Ins) : Nat → List (Nat × Nat)
  | 0 => []
  | i + 1 => nodesF x i ++ nodeF x i
/-- canon.Check. -/
def checkL (N : ByteArray → Bool) (x : Ins) : List (Nat × Nat) :=
  heads N x ++ if x.nodes.length < 1 ∨ 400 < x.nodes.length then [(7, 0)] else says (matrixB x) 8 0 ++ nodesF x x.nodes.length
def wellB (N : ByteArray → Bool) (x : Ins) : Bool := decide (checkL N x = [])

/-! The normal form. -/
def wholeNd (d : Nd) : Bool := decide (d.x.tmod 10 = 0) && decide (d.y.tmod 10 = 0)
def whole (l : List Nd) : Bool := l.all wholeNd
def shrinkNd (d : Nd) : Nd := { d with x := d.x.tdiv 10, y := d.y.tdiv 10 }
def shrink (l : List Nd) : List Nd := l.map shrinkNd
def normN : Nat → List Nd → Nat × List Nd
  | 0, l => (0, l)
  | s + 1, l => if whole l = true then normN s (shrink l) else (s + 1, l)
def norm (x : Ins) : Ins := if 1 ≤ x.scale ∧ x.scale ≤ 6 then { x with scale := ((normN x.scale.toNat x.nodes).1 : Int), nodes := (normN x.scale.toNat x.nodes).2 } else x
theorem shrink_length (l : List Nd) : (shrink l).length = l.length := by simp [shrink]
theorem normN_length : ∀ (s : Nat) (l : List Nd), (normN s l).2.length = l.length
  | 0, _ => rfl
  | s + 1, l => by
    rw [normN]; split
    · rw [normN_length s, shrink_length]
    · rfl
theorem normN_le : ∀ (s : Nat) (l : List Nd), (normN s l).1 ≤ s
  | 0, _ => Nat.le_refl _
  | s + 1, l => by
    rw [normN]; split
    · exact Nat.le_succ_of_le (normN_le s _)
    · exact Nat.le_refl _
theorem normN_own : ∀ (s : Nat) (l : List Nd), normN (normN s l).1 (normN s l).2 = normN s l
  | 0, _ => rfl
  | s + 1, l => by
    by_cases h : whole l = true
    · simp only [normN, h, if_true]; exact normN_own s _
    · have e : normN (s + 1) l = (s + 1, l) := by rw [normN, if_neg h]
      rw [e]; exact e
theorem norm_length (x : Ins) : (norm x).nodes.length = x.nodes.length := by
  unfold norm; split
  · exact normN_length _ _
  · rfl
theorem norm_scale (x : Ins) : (norm x).scale ≤ x.scale := by
  unfold norm; split
  · rename_i h
    have := normN_le x.scale.toNat x.nodes
    show ((normN x.scale.toNat x.nodes).1 : Int) ≤ x.scale
    omega
  · exact Int.le_refl _
theorem norm_own (x : Ins) : norm (norm x) = norm x := by
  by_cases h : 1 ≤ x.scale ∧ x.scale ≤ 6
  · have e : norm x = { x with scale := ((normN x.scale.toNat x.nodes).1 : Int), nodes := (normN x.scale.toNat x.nodes).2 } := by unfold norm; rw [if_pos h]
    rw [e]
    generalize hs : x.scale.toNat = s
    have ho := normN_own s x.nodes
    generalize hp : normN s x.nodes = p at ho
    obtain ⟨s', l'⟩ := p
    simp only at ho ⊢
    unfold norm
    by_cases h2 : 1 ≤ (s' : Int) ∧ (s' : Int) ≤ 6
    · rw [if_pos h2]
      simp only [Int.toNat_natCast, ho]
    · rw [if_neg h2]
  · have e : norm x = x := by unfold norm; rw [if_neg h]
    rw [e, e]
/-- What the normal form of a node keeps: all but its point, and that is no further. -/
structure Shr (d d' : Nd) : Prop where
  x : d'.x.natAbs ≤ d.x.natAbs
  y : d'.y.natAbs ≤ d.y.natAbs
  rest : d'.demand = d.demand ∧ d'.ready = d.ready ∧ d'.due = d.due ∧ d'.service = d.service ∧ d'.mate = d.mate
theorem Shr.refl (d : Nd) : Shr d d := ⟨Nat.le_refl _, Nat.le_refl _, rfl, rfl, rfl, rfl, rfl⟩
theorem Shr.trans {a b c : Nd} (h : Shr a b) (k : Shr b c) : Shr a c :=
  ⟨Nat.le_trans k.x h.x, Nat.le_trans k.y h.y, k.rest.1.trans h.rest.1, k.rest.2.1.trans h.rest.2.1, k.rest.2.2.1.trans h.rest.2.2.1, k.rest.2.2.2.1.trans h.rest.2.2.2.1, k.rest.2.2.2.2.trans h.rest.2.2.2.2⟩
theorem tdiv_le (a : Int) : (a.tdiv 10).natAbs ≤ a.natAbs := by
  rw [Int.natAbs_tdiv]; exact Nat.div_le_self _ _
theorem shr_shrink (d : Nd) : Shr d (shrinkNd d) := ⟨tdiv_le _, tdiv_le _, rfl, rfl, rfl, rfl, rfl⟩
theorem normN_shr : ∀ (s : Nat) (l : List Nd) (i : Nat), Shr (l.getD i zeroNd) ((normN s l).2.getD i zeroNd)
  | 0, _, _ => Shr.refl _
  | s + 1, l, i => by
    rw [normN]; split
    · refine Shr.trans ?_ (normN_shr s (shrink l) i)
      by_cases hi : i < l.length
      · have e1 : l.getD i zeroNd = l[i] := by simp [List.getD, hi]
        have e2 : (shrink l).getD i zeroNd = shrinkNd l[i] := by simp [shrink, List.getD, hi]
        rw [e1, e2]; exact shr_shrink _
      · have e1 : l.getD i zeroNd = zeroNd := by simp [List.getD, List.getElem?_eq_none (show l.length ≤ i by omega)]
        have e2 : (shrink l).getD i zeroNd = zeroNd := by simp [shrink, List.getD, List.getElem?_eq_none (show l.length ≤ i by omega)]
        rw [e1, e2]; exact Shr.refl _
    · exact Shr.refl _
theorem norm_shr (x : Ins) (i : Nat) : Shr (at' x i) (at' (norm x) i) := by
  unfold at' norm; split
  · exact normN_shr _ _ _
  · exact Shr.refl _
theorem norm_keeps (x : Ins) : (norm x).name = x.name ∧ (norm x).kind = x.kind ∧ (norm x).metric = x.metric ∧ (norm x).cap = x.cap ∧ (norm x).fleet = x.fleet ∧ (norm x).matrix = x.matrix := by
  unfold norm; split <;> exact ⟨rfl, rfl, rfl, rfl, rfl, rfl⟩
/-! No fault comes. -/
theorem says_sub {a b : Bool} {f n : Nat} (h : a = true → b = true) : (says b f n).Sublist (says a f n) := by
  unfold says
  cases ha : a with
  | true => rw [h ha]; simp
  | false => cases b <;> simp
theorem coord_norm {metric : Int} {d d' : Nd} (h : Shr d d') (hc : coordB metric d = true) : coordB metric d' = true := by
  have hx := h.x
  have hy := h.y
  simp only [coordB, signed, Bool.and_eq_true, Bool.or_eq_true, decide_eq_true_eq] at hc ⊢
  refine ⟨⟨⟨by omega, by omega⟩, by omega, by omega⟩, ?_⟩
  rcases hc.2 with hm | ⟨h0, h1⟩
  · exact .inl hm
  · exact .inr ⟨by omega, by omega⟩
theorem mate_norm (x : Ins) (i : Nat) : mateB (norm x) i = mateB x i := by
  have h1 := norm_keeps x
  have hi := (norm_shr x i).rest
  unfold mateB
  rw [h1.2.1, hi.2.2.2.2, hi.1, norm_length, (norm_shr x (at' x i).mate.toNat).rest.2.2.2.2, (norm_shr x (at' x i).mate.toNat).rest.1]
theorem matrix_norm (x : Ins) : matrixB (norm x) = matrixB x := by
  have h1 := norm_keeps x
  unfold matrixB
  rw [h1.2.2.1, h1.2.2.2.2.2, norm_length]
theorem scale_norm (x : Ins) (h : scaleB x.metric x.scale = true) : scaleB x.metric (norm x).scale = true := by
  by_cases hs : 1 ≤ x.scale ∧ x.scale ≤ 6
  · have hl := norm_scale x
    have h0 : 0 ≤ (norm x).scale := by unfold norm; rw [if_pos hs]; exact Int.natCast_nonneg _
    simp only [scaleB, Bool.and_eq_true, decide_eq_true_eq, Bool.not_eq_true', Bool.and_eq_false_iff, decide_eq_false_iff_not] at h ⊢
    refine ⟨⟨h0, by omega⟩, ?_⟩
    rcases h.2 with hm | hm
    · exact .inl hm
    · omega
  · have e : norm x = x := by unfold norm; rw [if_neg hs]
    rw [e]; exact h
theorem nodeF_norm (x : Ins) (i : Nat) : (nodeF (norm x) i).Sublist (nodeF x i) := by
  have h1 := norm_keeps x
  have hi := norm_shr x i
  unfold nodeF
  rw [mate_norm, h1.2.1, h1.2.2.1]
  have e1 : demandB x.kind i (at' (norm x) i) = demandB x.kind i (at' x i) := by unfold demandB; rw [hi.rest.1]
  have e2 : windowB x.kind (at' (norm x) i) = windowB x.kind (at' x i) := by unfold windowB; rw [hi.rest.2.1, hi.rest.2.2.1]
  have e3 : serviceB x.kind (at' (norm x) i) = serviceB x.kind (at' x i) := by unfold serviceB; rw [hi.rest.2.2.2.1]
  rw [e1, e2, e3]
  exact ((((says_sub (coord_norm hi)).append (List.Sublist.refl _)).append (List.Sublist.refl _)).append (List.Sublist.refl _)).append (List.Sublist.refl _)
theorem nodesF_norm (x : Ins) (n : Nat) : (nodesF (norm x) n).Sublist (nodesF x n) := by
  induction n with
  | zero => exact List.Sublist.refl _
  | succ n ih => exact ih.append (nodeF_norm x n)
/-- A normal form has no fault that the instance has not. -/
theorem check_norm (N : ByteArray → Bool) (x : Ins) : (checkL N (norm x)).Sublist (checkL N x) := by
  have h1 := norm_keeps x
  unfold checkL heads
  rw [h1.1, h1.2.1, h1.2.2.1, h1.2.2.2.1, h1.2.2.2.2.1, norm_length, matrix_norm]
  refine List.Sublist.append ?_ ?_
  · exact (((List.Sublist.refl _).append (says_sub (scale_norm x))).append (List.Sublist.refl _)).append (List.Sublist.refl _)
  · split
    · exact List.Sublist.refl _
    · exact (List.Sublist.refl _).append (nodesF_norm x _)
theorem well_norm (N : ByteArray → Bool) (x : Ins) (h : wellB N x = true) : wellB N (norm x) = true := by
  unfold wellB at h ⊢
  have h := of_decide_eq_true h
  have := check_norm N x
  rw [h] at this
  exact decide_eq_true (List.sublist_nil.1 this)
/-! Ten times as far. -/
def tenNd (d : Nd) : Nd := { d with x := 10 * d.x, y := 10 * d.y }
theorem whole_ten (l : List Nd) : whole (l.map tenNd) = true := by
  simp [whole, tenNd, wholeNd]
theorem shrink_ten (l : List Nd) : shrink (l.map tenNd) = l := by
  unfold shrink
  rw [List.map_map]
  have : (shrinkNd ∘ tenNd) = id := funext fun d => by
    simp [shrinkNd, tenNd]
  rw [this, List.map_id]
theorem norm_ten {x : Ins} (h0 : 0 ≤ x.scale) (h6 : x.scale < 6) : norm { x with scale := x.scale + 1, nodes := x.nodes.map tenNd } = norm x := by
  have e : norm { x with scale := x.scale + 1, nodes := x.nodes.map tenNd } = { x with scale := ((normN (x.scale + 1).toNat (x.nodes.map tenNd)).1 : Int), nodes := (normN (x.scale + 1).toNat (x.nodes.map tenNd)).2 } := by
    unfold norm; rw [if_pos (show 1 ≤ x.scale + 1 ∧ x.scale + 1 ≤ 6 from ⟨by omega, by omega⟩)]
  rw [e, show (x.scale + 1).toNat = x.scale.toNat + 1 by omega, normN, if_pos (whole_ten _), shrink_ten]
  unfold norm
  by_cases h1 : 1 ≤ x.scale
  · rw [if_pos ⟨h1, by omega⟩]
  · rw [if_neg (by omega), show x.scale.toNat = 0 by omega]
    have : x.scale = 0 := by omega
    cases x
    simp_all [normN]
#print axioms check_norm
#print axioms norm_own
#print axioms norm_ten
end Go.Canon
/- Plain facts on instances: the order of faults, and what is spoilt; no program. -/
namespace Go.Canon
/-! The order of faults. -/
def key (p : Nat × Nat) : Nat := if p.1 ≤ 8 then p.1 else 20 + 20 * p.2 + p.1
def fullN : Nat → List (Nat × Nat)
  | 0 => []
  | i + 1 => fullN i ++ [(9, i), (10, i), (11, i), (12, i), (13, i)]
def fullH : List (Nat × Nat) := [(1, 0), (2, 0), (3, 0), (4, 0), (5, 0), (6, 0)]
theorem says_in (b : Bool) (f n : Nat) : (says b f n).Sublist [(f, n)] := by unfold says; cases b <;> simp
theorem heads_in (N : ByteArray → Bool) (x : Ins) : (heads N x).Sublist fullH :=
  (((((says_in _ 1 0).append (says_in _ 2 0)).append (says_in _ 3 0)).append (says_in _ 4 0)).append (says_in _ 5 0)).append (says_in _ 6 0)
theorem nodeF_in (x : Ins) (i : Nat) : (nodeF x i).Sublist [(9, i), (10, i), (11, i), (12, i), (13, i)] :=
  ((((says_in _ 9 i).append (says_in _ 10 i)).append (says_in _ 11 i)).append (says_in _ 12 i)).append (says_in _ 13 i)
theorem nodesF_in (x : Ins) (n : Nat) : (nodesF x n).Sublist (fullN n) := by
  induction n with
  | zero => exact List.Sublist.refl _
  | succ n ih => exact ih.append (nodeF_in x n)
theorem fullN_mem {n : Nat} {p : Nat × Nat} (h : p ∈ fullN n) : 9 ≤ p.1 ∧ p.1 ≤ 13 ∧ p.2 < n := by
  induction n with
  | zero => cases h
  | succ n ih =>
    rw [fullN, List.mem_append] at h
    rcases h with h | h
    · have := ih h; omega
    · simp only [List.mem_cons, List.not_mem_nil, or_false] at h
      rcases h with rfl | rfl | rfl | rfl | rfl <;> simp
theorem fullN_sorted (n : Nat) : (fullN n).Pairwise fun p f => key p < key f := by
  induction n with
  | zero => exact List.Pairwise.nil
  | succ n ih =>
    rw [fullN, List.pairwise_append]
    refine ⟨ih, by simp [key], ?_⟩
    intro p hp f hf
    have h1 := fullN_mem hp
    simp only [List.mem_cons, List.not_mem_nil, or_false] at hf
    rcases hf with rfl | rfl | rfl | rfl | rfl <;> simp only [key] <;> rw [if_neg (by omega), if_neg (by omega)] <;> omega
theorem check_in (N : ByteArray → Bool) (x : Ins) : (checkL N x).Sublist (fullH ++ [(7, 0)] ++ [(8, 0)] ++ fullN x.nodes.length) := by
  unfold checkL
  rw [List.append_assoc, List.append_assoc]
  refine (heads_in N x).append ?_
  split
  · exact List.sublist_append_left [(7, 0)] _
  · exact ((says_in _ 8 0).append (nodesF_in x _)).trans (List.sublist_append_right [(7, 0)] _)
theorem full_sorted (n : Nat) : (fullH ++ [(7, 0)] ++ [(8, 0)] ++ fullN n).Pairwise fun p f => key p < key f := by
  rw [List.pairwise_append]
  refine ⟨by simp [fullH, key], fullN_sorted n, ?_⟩
  intro p hp f hf
  have h1 := fullN_mem hf
  have h2 : p.1 ≤ 8 := by
    simp only [fullH, List.cons_append, List.nil_append, List.mem_cons, List.not_mem_nil, or_false] at hp
    rcases hp with rfl | rfl | rfl | rfl | rfl | rfl | rfl | rfl <;> simp
  simp only [key]
  rw [if_pos h2, if_neg (by omega)]
  omega
theorem check_sorted (N : ByteArray → Bool) (x : Ins) : (checkL N x).Pairwise fun p f => key p < key f := (full_sorted _).sublist (check_in N x)
theorem check_mem {N : ByteArray → Bool} {x : Ins} {p : Nat × Nat} (h : p ∈ checkL N x) : (1 ≤ p.1 ∧ p.1 ≤ 8 ∧ p.2 = 0) ∨ (9 ≤ p.1 ∧ p.1 ≤ 13 ∧ p.2 < x.nodes.length) := by
  have h := (check_in N x).subset h
  rw [List.mem_append] at h
  rcases h with h | h
  · simp only [fullH, List.cons_append, List.nil_append, List.mem_cons, List.not_mem_nil, or_false] at h
    rcases h with rfl | rfl | rfl | rfl | rfl | rfl | rfl | rfl <;> simp
  · exact .inr (fullN_mem h)
theorem check_most (N : ByteArray → Bool) (x : Ins) (n : Nat) (h : x.nodes.length ≤ n) : (checkL N x).length ≤ 8 + 5 * n := by
  have h1 := (check_in N x).length_le
  have h2 : ∀ k, (fullN k).length = 5 * k := by
    intro k
    induction k with
    | zero => rfl
    | succ k ih => rw [fullN, List.length_append, ih]; simp; omega
  simp only [List.length_append, h2, fullH, List.length_cons, List.length_nil] at h1
  omega
/-- What two faults that stand next to one another are. -/
theorem check_next {N : ByteArray → Bool} {x : Ins} {i : Nat} {p f : Nat × Nat} (hp : (checkL N x)[i]? = some p) (hf : (checkL N x)[i + 1]? = some f) : key p < key f := by
  obtain ⟨h1, e1⟩ := List.getElem?_eq_some_iff.1 hp
  obtain ⟨h2, e2⟩ := List.getElem?_eq_some_iff.1 hf
  have := List.pairwise_iff_getElem.1 (check_sorted N x) i (i + 1) h1 h2 (by omega)
  rwa [e1, e2] at this
/-! What is well-formed, and spoilt. -/
theorem says_nil {b : Bool} {f n : Nat} : says b f n = [] ↔ b = true := by unfold says; cases b <;> simp
theorem nodesF_nil {x : Ins} {n : Nat} : nodesF x n = [] ↔ ∀ i, i < n → nodeF x i = [] := by
  induction n with
  | zero => simp [nodesF]
  | succ n ih =>
    rw [nodesF, List.append_eq_nil_iff, ih]
    constructor
    · rintro ⟨h1, h2⟩ i hi
      rcases Nat.lt_or_ge i n with h | h
      · exact h1 i h
      · rw [show i = n by omega]; exact h2
    · exact fun h => ⟨fun i hi => h i (by omega), h n (by omega)⟩
structure Well (N : ByteArray → Bool) (x : Ins) : Prop where
  name : N x.name = true
  kind : kindB x.kind = true
  metric : metricB x.metric = true
  scale : scaleB x.metric x.scale = true
  cap : capB x.kind x.cap = true
  fleet : fleetB x.kind x.fleet = true
  lo : 1 ≤ x.nodes.length
  hi : x.nodes.length ≤ 400
  matrix : matrixB x = true
  nodes : ∀ i, i < x.nodes.length → coordB x.metric (at' x i) = true ∧ demandB x.kind i (at' x i) = true ∧ windowB x.kind (at' x i) = true ∧ serviceB x.kind (at' x i) = true ∧ mateB x i = true
theorem nodeF_nil {x : Ins} {i : Nat} : nodeF x i = [] ↔ coordB x.metric (at' x i) = true ∧ demandB x.kind i (at' x i) = true ∧ windowB x.kind (at' x i) = true ∧ serviceB x.kind (at' x i) = true ∧ mateB x i = true := by
  unfold nodeF
  simp only [List.append_eq_nil_iff, says_nil, and_assoc]
theorem well_iff {N : ByteArray → Bool} {x : Ins} : wellB N x = true ↔ Well N x := by
  unfold wellB
  rw [decide_eq_true_iff]
  unfold checkL heads
  simp only [List.append_eq_nil_iff, says_nil]
  constructor
  · rintro ⟨⟨⟨⟨⟨⟨h1, h2⟩, h3⟩, h4⟩, h5⟩, h6⟩, h⟩
    by_cases hn : x.nodes.length < 1 ∨ 400 < x.nodes.length
    · rw [if_pos hn] at h; cases h
    · rw [if_neg hn, List.append_eq_nil_iff, says_nil, nodesF_nil] at h
      exact ⟨h1, h2, h3, h4, h5, h6, by omega, by omega, h.1, fun i hi => nodeF_nil.1 (h.2 i hi)⟩
  · intro h
    refine ⟨⟨⟨⟨⟨⟨h.name, h.kind⟩, h.metric⟩, h.scale⟩, h.cap⟩, h.fleet⟩, ?_⟩
    have := h.lo
    have := h.hi
    rw [if_neg (by omega), List.append_eq_nil_iff, says_nil, nodesF_nil]
    exact ⟨h.matrix, fun i hi => nodeF_nil.2 (h.nodes i hi)⟩
theorem Well.tail {N : ByteArray → Bool} {x : Ins} (h : Well N x) : (if x.nodes.length < 1 ∨ 400 < x.nodes.length then [(7, 0)] else says (matrixB x) 8 0 ++ nodesF x x.nodes.length) = [] := by
  have h1 := h.lo
  have h2 := h.hi
  rw [if_neg (by omega), List.append_eq_nil_iff, says_nil, nodesF_nil]
  exact ⟨h.matrix, fun i hi => nodeF_nil.2 (h.nodes i hi)⟩
theorem says_true (f n : Nat) : says true f n = [] := rfl
theorem says_false (f n : Nat) : says false f n = [(f, n)] := rfl
theorem nodesF_same {x y : Ins} (h : ∀ i, nodeF y i = nodeF x i) (n : Nat) : nodesF y n = nodesF x n := by
  induction n with
  | zero => rfl
  | succ n ih => rw [nodesF, nodesF, ih, h]
theorem spoil_name {N : ByteArray → Bool} {x : Ins} {e : ByteArray} (h : Well N x) (he : N e = false) : checkL N { x with name := e } = [(1, 0)] := by
  have ht := h.tail
  unfold checkL heads
  simp only [he, h.kind, h.metric, h.scale, h.cap, h.fleet, says_true, says_false, List.append_nil, List.cons_append, List.nil_append]
  rw [show nodesF { x with name := e } x.nodes.length = nodesF x x.nodes.length from nodesF_same (x := x) (y := { x with name := e }) (fun i => rfl) _, show matrixB { x with name := e } = matrixB x from rfl, ht]
theorem spoil_scale {N : ByteArray → Bool} {x : Ins} (h : Well N x) : checkL N { x with scale := 7 } = [(4, 0)] := by
  have ht := h.tail
  unfold checkL heads
  have hs : scaleB x.metric 7 = false := by simp [scaleB]
  simp only [hs, h.name, h.kind, h.metric, h.cap, h.fleet, says_true, says_false, List.append_nil, List.cons_append, List.nil_append]
  rw [show nodesF { x with scale := 7 } x.nodes.length = nodesF x x.nodes.length from nodesF_same (x := x) (y := { x with scale := 7 }) (fun i => rfl) _, show matrixB { x with scale := 7 } = matrixB x from rfl, ht]
theorem spoil_cap {N : ByteArray → Bool} {x : Ins} (h : Well N x) : checkL N { x with cap := -1 } = [(5, 0)] := by
  have ht := h.tail
  unfold checkL heads
  have hs : capB x.kind (-1) = false := by unfold capB; split <;> simp
  simp only [hs, h.name, h.kind, h.metric, h.scale, h.fleet, says_true, says_false, List.append_nil, List.cons_append, List.nil_append]
  rw [show nodesF { x with cap := -1 } x.nodes.length = nodesF x x.nodes.length from nodesF_same (x := x) (y := { x with cap := -1 }) (fun i => rfl) _, show matrixB { x with cap := -1 } = matrixB x from rfl, ht]
theorem spoil_fleet {N : ByteArray → Bool} {x : Ins} (h : Well N x) : checkL N { x with fleet := 401 } = [(6, 0)] := by
  have ht := h.tail
  unfold checkL heads
  have hs : fleetB x.kind 401 = false := by unfold fleetB; split <;> simp
  simp only [hs, h.name, h.kind, h.metric, h.scale, h.cap, says_true, says_false, List.append_nil, List.cons_append, List.nil_append]
  rw [show nodesF { x with fleet := 401 } x.nodes.length = nodesF x x.nodes.length from nodesF_same (x := x) (y := { x with fleet := 401 }) (fun i => rfl) _, show matrixB { x with fleet := 401 } = matrixB x from rfl, ht]
/-! One node spoilt. -/
theorem at_set {x : Ins} {i : Nat} (d : Nd) (hi : i < x.nodes.length) (j : Nat) : at' { x with nodes := x.nodes.set i d } j = if j = i then d else at' x j := by
  unfold at' List.getD
  simp only [List.getElem?_set]
  by_cases h : j = i
  · subst h; simp [hi]
  · rw [if_neg (fun e => h e.symm), if_neg h]
theorem mate_set {x : Ins} {i : Nat} {d : Nd} (hi : i < x.nodes.length) (h1 : d.demand = (at' x i).demand) (h2 : d.mate = (at' x i).mate) (j : Nat) : mateB { x with nodes := x.nodes.set i d } j = mateB x j := by
  have k1 : ∀ j, (at' { x with nodes := x.nodes.set i d } j).demand = (at' x j).demand := fun j => by
    rw [at_set d hi]; split
    · rename_i e; rw [e]; exact h1
    · rfl
  have k2 : ∀ j, (at' { x with nodes := x.nodes.set i d } j).mate = (at' x j).mate := fun j => by
    rw [at_set d hi]; split
    · rename_i e; rw [e]; exact h2
    · rfl
  unfold mateB
  simp only [k1, k2, List.length_set]
theorem nodesF_set {x : Ins} {i f : Nat} {d : Nd} (hn : ∀ j, j < x.nodes.length → nodeF x j = []) (hj : ∀ j, j ≠ i → nodeF { x with nodes := x.nodes.set i d } j = nodeF x j) (hf : nodeF { x with nodes := x.nodes.set i d } i = [(f, i)]) : ∀ n, n ≤ x.nodes.length → nodesF { x with nodes := x.nodes.set i d } n = if i < n then [(f, i)] else [] := by
  intro n
  induction n with
  | zero => intro _; rfl
  | succ n ih =>
    intro hle
    rw [nodesF, ih (by omega)]
    by_cases h : n = i
    · subst h
      rw [hf, if_neg (Nat.lt_irrefl _), if_pos (Nat.lt_succ_self _)]; rfl
    · rw [hj n h, hn n (by omega), List.append_nil]
      by_cases h2 : i < n
      · rw [if_pos h2, if_pos (by omega)]
      · rw [if_neg h2, if_neg (by omega)]
theorem spoil_node {N : ByteArray → Bool} {x : Ins} {i f : Nat} {d : Nd} (h : Well N x) (hi : i < x.nodes.length) (h1 : d.demand = (at' x i).demand) (h2 : d.mate = (at' x i).mate) (hf : nodeF { x with nodes := x.nodes.set i d } i = [(f, i)]) : checkL N { x with nodes := x.nodes.set i d } = [(f, i)] := by
  have hm := h.matrix
  have hlo := h.lo
  have hhi := h.hi
  have hm2 : matrixB { x with nodes := x.nodes.set i d } = true := by
    unfold matrixB at hm ⊢
    simp only [List.length_set]
    exact hm
  have hns := nodesF_set (d := d) (fun j hj => nodeF_nil.2 (h.nodes j hj)) (fun j hj => by
    unfold nodeF
    simp only [at_set d hi, if_neg hj, mate_set hi h1 h2]) hf x.nodes.length (Nat.le_refl _)
  unfold checkL heads
  simp only [h.name, h.kind, h.metric, h.scale, h.cap, h.fleet, says_true, List.append_nil, List.nil_append, List.length_set]
  rw [if_neg (by omega), hm2, hns, if_pos hi]
  rfl
/-- A node too far away; one that can't be served. -/
def farNd (d : Nd) : Nd := ⟨100000001, d.y, d.demand, d.ready, d.due, d.service, d.mate⟩
def slowNd (d : Nd) : Nd := ⟨d.x, d.y, d.demand, d.ready, d.due, -1, d.mate⟩
theorem spoil_coord {N : ByteArray → Bool} {x : Ins} {i : Nat} (h : Well N x) (hi : i < x.nodes.length) : checkL N { x with nodes := x.nodes.set i (farNd (at' x i)) } = [(9, i)] := by
  refine spoil_node h hi rfl rfl ?_
  obtain ⟨_, k2, k3, k4, k5⟩ := h.nodes i hi
  unfold nodeF
  rw [mate_set (d := farNd (at' x i)) hi rfl rfl, at_set _ hi, if_pos rfl, k5]
  have e1 : coordB x.metric (farNd (at' x i)) = false := by simp [coordB, signed, farNd]
  have e2 : demandB x.kind i (farNd (at' x i)) = true := k2
  have e3 : windowB x.kind (farNd (at' x i)) = true := k3
  have e4 : serviceB x.kind (farNd (at' x i)) = true := k4
  simp only [e1, e2, e3, e4, says_true, says_false, List.append_nil]
theorem spoil_service {N : ByteArray → Bool} {x : Ins} {i : Nat} (h : Well N x) (hi : i < x.nodes.length) : checkL N { x with nodes := x.nodes.set i (slowNd (at' x i)) } = [(12, i)] := by
  refine spoil_node h hi rfl rfl ?_
  obtain ⟨k1, k2, k3, _, k5⟩ := h.nodes i hi
  unfold nodeF
  rw [mate_set (d := slowNd (at' x i)) hi rfl rfl, at_set _ hi, if_pos rfl, k5]
  have e1 : coordB x.metric (slowNd (at' x i)) = true := k1
  have e2 : demandB x.kind i (slowNd (at' x i)) = true := k2
  have e3 : windowB x.kind (slowNd (at' x i)) = true := k3
  have e4 : serviceB x.kind (slowNd (at' x i)) = false := by unfold serviceB number slowNd; split <;> simp
  simp only [e1, e2, e3, e4, says_true, says_false, List.append_nil, List.nil_append]
#print axioms spoil_coord
#print axioms spoil_service
#print axioms spoil_name
#print axioms check_next
#print axioms well_iff
end Go.Canon
/- Slices of nodes and of faults, and instances as values: what they hold; the small functions of the document's own answers: number, signed. Conditions: none. -/
namespace Go.Proofs
open Go.RowKit Go.Shelf Go.Canon
attribute [local go_sem] Oper.semAt_some

theorem cret_is {a b : Bool} (h : a = b) : Ending.returned (.bool a) = .returned (.bool b) := by rw [h]
/-- The seven cells of each node, from an address on. -/
structure NdAt (W : World) (b o : Nat) (d : Nd) : Prop where
  x : W.cell? ⟨b, o, none⟩ = some (.int .i64 d.x)
  y : W.cell? ⟨b, o + 1, none⟩ = some (.int .i64 d.y)
  demand : W.cell? ⟨b, o + 2, none⟩ = some (.int .i64 d.demand)
  ready : W.cell? ⟨b, o + 3, none⟩ = some (.int .i64 d.ready)
  due : W.cell? ⟨b, o + 4, none⟩ = some (.int .i64 d.due)
  service : W.cell? ⟨b, o + 5, none⟩ = some (.int .i64 d.service)
  mate : W.cell? ⟨b, o + 6, none⟩ = some (.int .i64 d.mate)
theorem NdAt.below {B b o : Nat} {W W' : World} {d : Nd} (h : NdAt W b o d) (hb : Below B W W') (hlt : b < B) : NdAt W' b o d :=
  ⟨(hb.cell (p := ⟨b, o, none⟩) hlt).trans h.x, (hb.cell (p := ⟨b, o + 1, none⟩) hlt).trans h.y, (hb.cell (p := ⟨b, o + 2, none⟩) hlt).trans h.demand, (hb.cell (p := ⟨b, o + 3, none⟩) hlt).trans h.ready, (hb.cell (p := ⟨b, o + 4, none⟩) hlt).trans h.due, (hb.cell (p := ⟨b, o + 5, none⟩) hlt).trans h.service, (hb.cell (p := ⟨b, o + 6, none⟩) hlt).trans h.mate⟩
def NodesAt (W : World) (b off : Nat) (l : List Nd) : Prop := b < W.heap.size ∧ ∀ i d, l[i]? = some d → NdAt W b (off + i * 7) d
/-- A slice that reads as these nodes. -/
def HasNodes (W : World) (v : Value) (l : List Nd) : Prop := (l = [] ∧ ∃ ao cap, v = .slice ao 0 cap) ∨ ∃ b off cap, v = .slice (some ⟨b, off, none⟩) l.length cap ∧ l.length ≤ cap ∧ cap ≤ maxLen ∧ NodesAt W b off l
theorem NodesAt.below {B b off : Nat} {W W' : World} {l : List Nd} (h : NodesAt W b off l) (hb : Below B W W') (hlt : b < B) : NodesAt W' b off l :=
  ⟨Nat.lt_of_lt_of_le h.1 hb.size, fun i d hi => (h.2 i d hi).below hb hlt⟩
theorem NodesAt.next {b off : Nat} {W W' : World} {l : List Nd} (h : NodesAt W b off l) (hb : Below W.heap.size W W') : NodesAt W' b off l := h.below hb h.1
theorem HasNodes.next {W W' : World} {v : Value} {l : List Nd} (h : HasNodes W v l) (hb : Below W.heap.size W W') : HasNodes W' v l := by
  rcases h with h | ⟨b, off, cap, h1, h2, h3, h4⟩
  · exact .inl h
  · exact .inr ⟨b, off, cap, h1, h2, h3, h4.next hb⟩
theorem HasNodes.dat {W : World} {v : Value} {l : List Nd} (h : HasNodes W v l) : ∃ ao cap, v = .slice ao l.length cap ∧ (l = [] ∨ ∃ b off, ao = some ⟨b, off, none⟩ ∧ NodesAt W b off l) := by
  rcases h with ⟨rfl, ao, cap, rfl⟩ | ⟨b, off, cap, rfl, _, _, hd⟩
  · exact ⟨ao, cap, rfl, .inl rfl⟩
  · exact ⟨_, cap, rfl, .inr ⟨b, off, rfl, hd⟩⟩
/-- The cells of a list's numbers, from an address on. -/
def NumsAt (W : World) (b off : Nat) (l : List Int) : Prop := b < W.heap.size ∧ ∀ i x, l[i]? = some x → W.cell? ⟨b, off + i, none⟩ = some (.int .i64 x)
/-- A slice that reads as these numbers. -/
def HasNums (W : World) (v : Value) (l : List Int) : Prop := (l = [] ∧ ∃ ao cap, v = .slice ao 0 cap) ∨ ∃ b off cap, v = .slice (some ⟨b, off, none⟩) l.length cap ∧ l.length ≤ cap ∧ cap ≤ maxLen ∧ NumsAt W b off l
theorem NumsAt.next {b off : Nat} {W W' : World} {l : List Int} (h : NumsAt W b off l) (hb : Below W.heap.size W W') : NumsAt W' b off l :=
  ⟨Nat.lt_of_lt_of_le h.1 hb.size, fun i x hi => (hb.cell (p := ⟨b, off + i, none⟩) h.1).trans (h.2 i x hi)⟩
theorem HasNums.next {W W' : World} {v : Value} {l : List Int} (h : HasNums W v l) (hb : Below W.heap.size W W') : HasNums W' v l := by
  rcases h with h | ⟨b, off, cap, h1, h2, h3, h4⟩
  · exact .inl h
  · exact .inr ⟨b, off, cap, h1, h2, h3, h4.next hb⟩
theorem HasNums.dat {W : World} {v : Value} {l : List Int} (h : HasNums W v l) : ∃ ao cap, v = .slice ao l.length cap ∧ (l = [] ∨ ∃ b off, ao = some ⟨b, off, none⟩ ∧ NumsAt W b off l) := by
  rcases h with ⟨rfl, ao, cap, rfl⟩ | ⟨b, off, cap, rfl, _, _, hd⟩
  · exact ⟨ao, cap, rfl, .inl rfl⟩
  · exact ⟨_, cap, rfl, .inr ⟨b, off, rfl, hd⟩⟩
/-- An instance as a value. -/
def insV (x : Ins) (vn vm : Value) : Value := .agg #[.string x.name, .int .i64 x.kind, .int .i64 x.metric, .int .i64 x.scale, .int .i64 x.cap, .int .i64 x.fleet, vn, vm]
/-- A value that reads as an instance. -/
structure HasIns (W : World) (vn vm : Value) (x : Ins) : Prop where
  nodes : HasNodes W vn x.nodes
  matrix : HasNums W vm x.matrix
theorem HasIns.next {W W' : World} {vn vm : Value} {x : Ins} (h : HasIns W vn vm x) (hb : Below W.heap.size W W') : HasIns W' vn vm x := ⟨h.nodes.next hb, h.matrix.next hb⟩

end Go.Proofs
/- Rows of structs of a call's own: what they read as (faults, nodes). No program's functions. -/
namespace Go.Proofs
open Go.RowKit Go.Shelf Go.Canon
attribute [local go_sem] Oper.semAt_some

/-! Lists of structs, laid out flat. -/
theorem flat_len {α : Type} {f : α → List Value} {s : Nat} (hf : ∀ a, (f a).length = s) (l : List α) : (l.flatMap f).length = l.length * s := by
  induction l with
  | nil => simp
  | cons a l ih => rw [List.flatMap_cons, List.length_append, ih, hf, List.length_cons, Nat.succ_mul]; omega
theorem flat_get {α : Type} {f : α → List Value} {s : Nat} (hf : ∀ a, (f a).length = s) : ∀ {l : List α} {i : Nat} {a : α} {j : Nat}, l[i]? = some a → j < s → (l.flatMap f)[i * s + j]? = (f a)[j]?
  | [], i, a, j, h, _ => by simp at h
  | b :: l, 0, a, j, h, hj => by
    have e : b = a := by simpa using h
    subst e
    rw [List.flatMap_cons, Nat.zero_mul, Nat.zero_add, List.getElem?_append_left (by rw [hf]; exact hj)]
  | b :: l, i + 1, a, j, h, hj => by
    have h' : l[i]? = some a := by simpa using h
    have := flat_get hf h' hj
    rw [List.flatMap_cons, Nat.succ_mul, List.getElem?_append_right (by rw [hf]; omega), hf, ← this]
    congr 1; omega
theorem flat_snoc {α : Type} (f : α → List Value) (l : List α) (a : α) : (l ++ [a]).flatMap f = l.flatMap f ++ f a := by simp [List.flatMap_append]
theorem ctake_get {α : Type} {l : List α} {k : Nat} {a : α} (h : l[k]? = some a) : l.take (k + 1) = l.take k ++ [a] := by rw [List.take_add_one, h]; rfl
/-- What a cell of an own row reads as. -/
theorem owns_flat {α : Type} {W : World} {base s : Nat} {e : TypeId} {v : Value} {f : α → List Value} {l : List α} (hf : ∀ a, (f a).length = s) (h : W.ownsRow base e s v l.length (l.flatMap f)) :
    (l = [] ∧ v = .slice none 0 0) ∨ ∃ g cap, v = .slice (some ⟨g, 0, none⟩) l.length cap ∧ l.length ≤ cap ∧ cap ≤ maxLen ∧ g < W.heap.size ∧ ∀ i a j u, l[i]? = some a → (f a)[j]? = some u → W.cell? ⟨g, 0 + i * s + j, none⟩ = some u := by
  rcases h.2 with ⟨rfl, h0⟩ | ⟨g, cap, cur, rfl, _, hg, hnc, hcm, hcs, htk⟩
  · exact .inl ⟨List.length_eq_zero_iff.1 h0, rfl⟩
  · refine .inr ⟨g, cap, rfl, hnc, hcm, (Array.getElem?_eq_some_iff.1 hg).1, fun i a j u hi hu => ?_⟩
    have hlt : i < l.length := (List.getElem?_eq_some_iff.1 hi).1
    have hj : j < s := by rw [← hf a]; exact (List.getElem?_eq_some_iff.1 hu).1
    have h1 := flat_get hf hi hj
    rw [hu, ← htk, List.getElem?_take, if_pos (by have := Nat.mul_le_mul_right s (show i + 1 ≤ l.length by omega); rw [Nat.succ_mul] at this; omega)] at h1
    unfold World.cell?
    simp only [hg, Nat.zero_add]
    simpa using h1
theorem cowns_empty (w : World) (e : TypeId) (s : Nat) : (w.alloc (.cells #[] e)).ownsRow w.heap.size e s (.slice (some ⟨w.heap.size, 0, none⟩) 0 0) 0 [] :=
  ⟨by simp, .inr ⟨w.heap.size, 0, #[], rfl, Nat.le_refl _, World.alloc_heap_new w _, Nat.le_refl _, Nat.zero_le _, by simp, by simp⟩⟩
theorem cgrown_below {n₀ : Nat} {w wr w1 : World} {tmp : Obj} {v : Value} {e : TypeId} {size k : Nat} {xs : List Value} (hB : Below n₀ w wr) (hn : n₀ ≤ wr.heap.size) (hown : wr.ownsRow n₀ e size v k xs) (hgrow : (wr.alloc tmp).grownBy w1 v.ownBlock) : Below n₀ w w1 := by
  refine (hB.alloc hn tmp).grown hgrow (by simp; omega) ?_
  intro k hk
  rcases hown.2 with ⟨rfl, _⟩ | ⟨g, cap, cur, rfl, hbg, _⟩
  · simp [Value.ownBlock] at hk
  · have : g = k := by simpa [Value.ownBlock] using hk
    omega
/-! Faults. -/
def ftC (p : Nat × Nat) : List Value := [.int .i64 (p.1 : Int), .int .i64 (p.2 : Int)]
def ndC (d : Nd) : List Value := [.int .i64 d.x, .int .i64 d.y, .int .i64 d.demand, .int .i64 d.ready, .int .i64 d.due, .int .i64 d.service, .int .i64 d.mate]
def FtAt (W : World) (b off : Nat) (l : List (Nat × Nat)) : Prop := b < W.heap.size ∧ ∀ i p, l[i]? = some p → W.cell? ⟨b, off + i * 2, none⟩ = some (.int .i64 (p.1 : Int)) ∧ W.cell? ⟨b, off + i * 2 + 1, none⟩ = some (.int .i64 (p.2 : Int))
/-- A slice that reads as these faults. -/
def HasFts (W : World) (v : Value) (l : List (Nat × Nat)) : Prop := (l = [] ∧ ∃ ao cap, v = .slice ao 0 cap) ∨ ∃ b off cap, v = .slice (some ⟨b, off, none⟩) l.length cap ∧ l.length ≤ cap ∧ cap ≤ maxLen ∧ FtAt W b off l
theorem FtAt.next {b off : Nat} {W W' : World} {l : List (Nat × Nat)} (h : FtAt W b off l) (hb : Below W.heap.size W W') : FtAt W' b off l :=
  ⟨Nat.lt_of_lt_of_le h.1 hb.size, fun i p hi => ⟨(hb.cell (p := ⟨b, off + i * 2, none⟩) h.1).trans (h.2 i p hi).1, (hb.cell (p := ⟨b, off + i * 2 + 1, none⟩) h.1).trans (h.2 i p hi).2⟩⟩
theorem HasFts.next {W W' : World} {v : Value} {l : List (Nat × Nat)} (h : HasFts W v l) (hb : Below W.heap.size W W') : HasFts W' v l := by
  rcases h with h | ⟨b, off, cap, h1, h2, h3, h4⟩
  · exact .inl h
  · exact .inr ⟨b, off, cap, h1, h2, h3, h4.next hb⟩
theorem HasFts.dat {W : World} {v : Value} {l : List (Nat × Nat)} (h : HasFts W v l) : ∃ ao cap, v = .slice ao l.length cap ∧ (l = [] ∨ ∃ b off, ao = some ⟨b, off, none⟩ ∧ FtAt W b off l) := by
  rcases h with ⟨rfl, ao, cap, rfl⟩ | ⟨b, off, cap, rfl, _, _, hd⟩
  · exact ⟨ao, cap, rfl, .inl rfl⟩
  · exact ⟨_, cap, rfl, .inr ⟨b, off, rfl, hd⟩⟩
theorem fts_of_owns {W : World} {base : Nat} {e : TypeId} {v : Value} {l : List (Nat × Nat)} (h : W.ownsRow base e 2 v l.length (l.flatMap ftC)) : HasFts W v l := by
  rcases owns_flat (f := ftC) (s := 2) (fun _ => rfl) h with ⟨rfl, rfl⟩ | ⟨g, cap, rfl, h1, h2, h3, h4⟩
  · exact .inl ⟨rfl, none, 0, rfl⟩
  · exact .inr ⟨g, 0, cap, rfl, h1, h2, h3, fun i p hi => ⟨h4 i p 0 _ hi rfl, h4 i p 1 _ hi rfl⟩⟩
theorem nodes_of_owns {W : World} {base : Nat} {e : TypeId} {v : Value} {l : List Nd} (h : W.ownsRow base e 7 v l.length (l.flatMap ndC)) : HasNodes W v l := by
  rcases owns_flat (f := ndC) (s := 7) (fun _ => rfl) h with ⟨rfl, rfl⟩ | ⟨g, cap, rfl, h1, h2, h3, h4⟩
  · exact .inl ⟨rfl, none, 0, rfl⟩
  · exact .inr ⟨g, 0, cap, rfl, h1, h2, h3, fun i d hi => ⟨h4 i d 0 _ hi rfl, h4 i d 1 _ hi rfl, h4 i d 2 _ hi rfl, h4 i d 3 _ hi rfl, h4 i d 4 _ hi rfl, h4 i d 5 _ hi rfl, h4 i d 6 _ hi rfl⟩⟩
theorem map_flat (l : List Int) : (l.map fun x => Value.int .i64 x) = l.flatMap fun x => [Value.int .i64 x] := by induction l <;> simp_all
theorem nums_of_owns {W : World} {base : Nat} {e : TypeId} {v : Value} {l : List Int} (h : W.ownsRow base e 1 v l.length (l.map fun x => .int .i64 x)) : HasNums W v l := by
  rw [map_flat] at h
  rcases owns_flat (f := fun x : Int => [Value.int .i64 x]) (s := 1) (fun _ => rfl) h with ⟨rfl, rfl⟩ | ⟨g, cap, rfl, h1, h2, h3, h4⟩
  · exact .inl ⟨rfl, none, 0, rfl⟩
  · exact .inr ⟨g, 0, cap, rfl, h1, h2, h3, fun i x hi => by have := h4 i x 0 _ hi rfl; simpa using this⟩
end Go.Proofs
/- Plain facts: what the words of a part are, told from its beginning; what a part is without blanks at its ends; no program. -/
namespace Go.Wds
/-- All bytes from a up to b are blanks. -/
def Blank (l : List UInt8) (a b : Nat) : Prop := ∀ j x, a ≤ j → j < b → l[j]? = some x → blk x = true
/-- No byte from a up to b is a blank. -/
def Ink (l : List UInt8) (a b : Nat) : Prop := ∀ j x, a ≤ j → j < b → l[j]? = some x → blk x = false
/-- ps are the words from a up to b. -/
def Runs (l : List UInt8) (b : Nat) : Nat → List (Nat × Nat) → Prop
  | a, [] => Blank l a b
  | a, (p, q) :: r => a ≤ p ∧ p < q ∧ q ≤ b ∧ Blank l a p ∧ Ink l p q ∧ (q < b → ∀ x, l[q]? = some x → blk x = true) ∧ Runs l b q r

theorem wordsL_succ {l : List UInt8} {a k : Nat} (h : a ≤ k) : wordsL l a (k + 1) = grow l a k (wordsL l a k) := by
  unfold wordsL
  rw [show k + 1 - a = (k - a) + 1 from by omega]
  show grow l a (a + (k - a)) _ = _
  rw [show a + (k - a) = k from by omega]
theorem words_last {l : List UInt8} {a k : Nat} (h : a < k) {c : UInt8} (hc : l[k - 1]? = some c) (hb : blk c = false) : ∃ pre q, wordsL l a k = pre ++ [(q, k)] := by
  obtain ⟨n, rfl⟩ : ∃ n, k = n + 1 := ⟨k - 1, by omega⟩
  rw [wordsL_succ (by omega)]
  rw [Nat.add_sub_cancel] at hc
  unfold grow
  rw [if_neg (by rw [hc]; simp [hb])]
  split
  · exact ⟨_, _, rfl⟩
  · exact ⟨_, _, rfl⟩

/-- Behind the first word, which ends at a blank, the words are those from there. -/
theorem words_cons {l : List UInt8} {a k e : Nat} (hak : a ≤ k) (hke : k < e) (h0 : wordsL l a e = [(k, e)]) : ∀ n, e + n ≤ l.length → (0 < n → ∀ x, l[e]? = some x → blk x = true) → wordsL l a (e + n) = (k, e) :: wordsL l e (e + n)
  | 0, _, _ => by rw [Nat.add_zero, h0, words_nil]
  | n + 1, hl, hb => by
    have ih := words_cons hak hke h0 n (by omega) (fun _ => hb (by omega))
    have hc : l[e + n]? = some l[e + n] := List.getElem?_eq_getElem (by omega)
    rw [show e + (n + 1) = (e + n) + 1 from by omega, wordsL_succ (a := a) (by omega), wordsL_succ (a := e) (by omega), ih]
    unfold grow
    by_cases h1 : blk l[e + n] = true
    · rw [if_pos (by rw [hc]; simpa using h1), if_pos (by rw [hc]; simpa using h1)]
    · have h1' : blk l[e + n] = false := by simpa using h1
      have hn : n ≠ 0 := fun h => by
        subst h
        have := hb (by omega) _ hc
        rw [h1'] at this; cases this
      have hd : l[e + n - 1]? = some l[e + n - 1] := List.getElem?_eq_getElem (by omega)
      have A : ¬ ((l[e + n]?.map blk).getD true = true) := by rw [hc]; simp [h1']
      rw [if_neg A, if_neg A]
      by_cases h2 : blk l[e + n - 1] = false
      · have B : (l[e + n - 1]?.map blk).getD true = false := by rw [hd]; simpa using h2
        rw [if_pos ⟨by omega, B⟩, if_pos ⟨by omega, B⟩]
        obtain ⟨pre, q, hpre⟩ := words_last (a := e) (k := e + n) (by omega) hd h2
        have C : ((k, e) :: (pre ++ [(q, e + n)])).getLast? = some (q, e + n) := by rw [← List.cons_append, List.getLast?_append]; rfl
        rw [hpre, C]
        simp [List.dropLast_cons_of_ne_nil]
      · have B : ¬ ((l[e + n - 1]?.map blk).getD true = false) := by rw [hd]; simpa using h2
        rw [if_neg (fun h => B h.2), if_neg (fun h => B h.2)]
        rfl

theorem runs_words {l : List UInt8} {b : Nat} (hb : b ≤ l.length) : ∀ n a, a ≤ b → b - a ≤ n → Runs l b a (wordsL l a b) := by
  intro n
  induction n with
  | zero =>
    intro a hab hn
    have e : a = b := by omega
    subst e
    rw [words_nil]
    exact fun j x h1 h2 => by omega
  | succ n ih =>
    intro a hab hn
    obtain ⟨h1, h2, h3, h4⟩ := fields_start (l := l) hab
    have hbl : Blank l a (seekL ink l a b) := fun j x h5 h6 h7 => by
      have := seek_none h5 h6 h7
      rw [ink_not] at this
      simpa using this
    generalize seekL ink l a b = k at *
    by_cases hk : k < b
    · obtain ⟨r1, r2⟩ := h4 hk
      have g1 := seek_le (q := blk) (l := l) (Nat.le_of_lt hk)
      have hn2 : Ink l k (seekL blk l k b) := fun j x h5 h6 h7 => seek_none h5 h6 h7
      have hat : seekL blk l k b < b → ∃ c, l[seekL blk l k b]? = some c ∧ blk c = true := fun h => seek_at (Nat.le_of_lt hk) h
      have g0 := (fields_step h1 hk hb h4).1
      generalize seekL blk l k b = e at *
      have hw : wordsL l a e = [(k, e)] := by rw [words_word h1 g0 (by omega) r1 hn2, h3]; rfl
      have hend : e < b → ∀ x, l[e]? = some x → blk x = true := fun h x hx => by
        obtain ⟨c, hc, hq⟩ := hat h
        rw [hc] at hx; cases hx; exact hq
      have := words_cons h1 g0 hw (b - e) (by omega) (fun h => hend (by omega))
      rw [show e + (b - e) = b from by omega] at this
      rw [this]
      exact ⟨h1, g0, g1, hbl, hn2, hend, ih e g1 (by omega)⟩
    · have e : k = b := by omega
      subst e
      rw [h3]
      exact hbl
theorem runs_of {l : List UInt8} {a b : Nat} (hab : a ≤ b) (hb : b ≤ l.length) : Runs l b a (wordsL l a b) := runs_words hb (b - a) a hab (Nat.le_refl _)

theorem at_len {l : List UInt8} {j : Nat} (h : j < l.length) : ∃ x, l[j]? = some x := ⟨_, List.getElem?_eq_getElem h⟩
theorem blank_ink {l : List UInt8} {a b a' b' j : Nat} (hl : j < l.length) (h : Blank l a b) (h' : Ink l a' b') (h1 : a ≤ j) (h2 : j < b) (h3 : a' ≤ j) (h4 : j < b') : False := by
  obtain ⟨x, hx⟩ := at_len hl
  have := h j x h1 h2 hx
  rw [h' j x h3 h4 hx] at this
  cases this
/-- There is one way to tell words. -/
theorem runs_eq {l : List UInt8} {b : Nat} (hb : b ≤ l.length) : ∀ {ps qs : List (Nat × Nat)} {a : Nat}, Runs l b a ps → Runs l b a qs → ps = qs
  | [], [], _, _, _ => rfl
  | [], (p, q) :: qs, a, h, h' => by
    obtain ⟨h1, h2, h3, _, h5, _⟩ := h'
    exact (blank_ink (j := p) (by omega) h h5 h1 (by omega) (by omega) h2).elim
  | (p, q) :: ps, [], a, h, h' => by
    obtain ⟨h1, h2, h3, _, h5, _⟩ := h
    exact (blank_ink (j := p) (by omega) h' h5 h1 (by omega) (by omega) h2).elim
  | (p, q) :: ps, (p', q') :: qs, a, h, h' => by
    obtain ⟨h1, h2, h3, h4, h5, h6, h7⟩ := h
    obtain ⟨g1, g2, g3, g4, g5, g6, g7⟩ := h'
    have e1 : p = p' := by
      rcases Nat.lt_trichotomy p p' with h | h | h
      · exact (blank_ink (j := p) (by omega) g4 h5 h1 h (by omega) h2).elim
      · exact h
      · exact (blank_ink (j := p') (by omega) h4 g5 g1 h (by omega) g2).elim
    subst e1
    have e2 : q = q' := by
      rcases Nat.lt_trichotomy q q' with h | h | h
      · obtain ⟨x, hx⟩ := at_len (l := l) (j := q) (by omega)
        have := h6 (by omega) x hx
        rw [g5 q x (by omega) h hx] at this
        cases this
      · exact h
      · obtain ⟨x, hx⟩ := at_len (l := l) (j := q') (by omega)
        have := g6 (by omega) x hx
        rw [h5 q' x (by omega) h hx] at this
        cases this
    subst e2
    rw [runs_eq hb h7 g7]

/-- F up to T is a without blanks at its ends; of blanks alone the end. -/
def IsTrim (l : List UInt8) (a b F T : Nat) : Prop := a ≤ F ∧ F ≤ T ∧ T ≤ b ∧ Blank l a F ∧ Blank l T b ∧ (F = T → F = b) ∧ (F < T → (∀ x, l[F]? = some x → blk x = false) ∧ ∀ x, l[T - 1]? = some x → blk x = false)
theorem trim_unique {l : List UInt8} {a b F T F' T' : Nat} (hb : b ≤ l.length) (h : IsTrim l a b F T) (h' : IsTrim l a b F' T') : F = F' ∧ T = T' := by
  obtain ⟨h1, h2, h3, h4, h5, h6, h7⟩ := h
  obtain ⟨g1, g2, g3, g4, g5, g6, g7⟩ := h'
  have key : ∀ {F T F' T' : Nat}, F ≤ T → T ≤ b → (F < T → (∀ x, l[F]? = some x → blk x = false) ∧ ∀ x, l[T - 1]? = some x → blk x = false) → a ≤ F → Blank l a F' → Blank l T' b → F < T → F' ≤ F ∧ T ≤ T' := by
    intro F T F' T' i1 i2 i3 i4 i5 i6 i7
    obtain ⟨j1, j2⟩ := i3 i7
    obtain ⟨x, hx⟩ := at_len (l := l) (j := F) (by omega)
    obtain ⟨y, hy⟩ := at_len (l := l) (j := T - 1) (by omega)
    refine ⟨Nat.le_of_not_lt fun h => ?_, Nat.le_of_not_lt fun h => ?_⟩
    · have := i5 F x i4 h hx
      rw [j1 x hx] at this; cases this
    · have := i6 (T - 1) y (by omega) (by omega) hy
      rw [j2 y hy] at this; cases this
  by_cases e : F < T
  · obtain ⟨k1, k2⟩ := key h2 h3 h7 h1 g4 g5 e
    by_cases e' : F' < T'
    · obtain ⟨k3, k4⟩ := key g2 g3 g7 g1 h4 h5 e'
      omega
    · have := g6 (by omega)
      omega
  · have i1 := h6 (by omega)
    by_cases e' : F' < T'
    · obtain ⟨k3, k4⟩ := key g2 g3 g7 g1 h4 h5 e'
      omega
    · have := g6 (by omega)
      omega
/-- Without blanks at its ends. -/
def trimW (b : Nat) (ps : List (Nat × Nat)) : Nat × Nat := match ps with
  | [] => (b, b)
  | p :: r => (p.1, ((p :: r).getLast (by simp)).2)
def trimL (l : List UInt8) (a b : Nat) : Nat × Nat := trimW b (wordsL l a b)
theorem runs_trim {l : List UInt8} {b : Nat} : ∀ {ps : List (Nat × Nat)} {a p q : Nat}, Runs l b a ((p, q) :: ps) → ∀ T, T = (((p, q) :: ps).getLast (by simp)).2 → p < T ∧ T ≤ b ∧ Blank l T b ∧ (∀ x, l[T - 1]? = some x → blk x = false)
  | [], a, p, q, h, T, hT => by
    obtain ⟨h1, h2, h3, h4, h5, h6, h7⟩ := h
    have e : T = q := hT
    subst e
    exact ⟨h2, h3, h7, fun x hx => h5 _ x (by omega) (by omega) hx⟩
  | (p', q') :: ps, a, p, q, h, T, hT => by
    obtain ⟨h1, h2, h3, h4, h5, h6, h7⟩ := h
    obtain ⟨g1, g2, g3, g4⟩ := runs_trim h7 T (by rw [hT]; simp)
    have := h7.1
    exact ⟨by omega, g2, g3, g4⟩
theorem is_trim {l : List UInt8} {a b : Nat} (hab : a ≤ b) (hb : b ≤ l.length) : IsTrim l a b (trimL l a b).1 (trimL l a b).2 := by
  have h := runs_of hab hb
  unfold trimL
  cases hw : wordsL l a b with
  | nil =>
    rw [hw] at h
    show IsTrim l a b b b
    exact ⟨hab, Nat.le_refl _, Nat.le_refl _, h, fun j x h1 h2 => by omega, fun _ => rfl, fun h => by omega⟩
  | cons pq r =>
    obtain ⟨p, q⟩ := pq
    rw [hw] at h
    obtain ⟨g1, g2, g3, g4⟩ := runs_trim h _ rfl
    obtain ⟨h1, h2, h3, h4, h5, h6, h7⟩ := h
    refine ⟨h1, Nat.le_of_lt g1, g2, h4, g3, fun e => ?_, fun _ => ⟨fun x hx => h5 p x (Nat.le_refl _) h2 hx, g4⟩⟩
    exact absurd e (Nat.ne_of_lt g1)
end Go.Wds
/- The document's own Fields of this program, as a contract. Conditions: a text of at most two million bytes. -/
namespace Go.Wds
theorem words_skip {l : List UInt8} {a k : Nat} (h : a ≤ k) {c : UInt8} (hc : l[k]? = some c) (hb : blk c = true) : wordsL l a (k + 1) = wordsL l a k := by
  rw [wordsL_succ h]; unfold grow; rw [if_pos (by rw [hc]; simpa using hb)]
theorem words_new {l : List UInt8} {a k : Nat} (h : a ≤ k) {c : UInt8} (hc : l[k]? = some c) (hb : blk c = false) (h0 : k = a ∨ ∃ d, l[k - 1]? = some d ∧ blk d = true) : wordsL l a (k + 1) = wordsL l a k ++ [(k, k + 1)] := by
  rw [wordsL_succ h]; unfold grow; rw [if_neg (by rw [hc]; simp [hb]), if_neg]
  rintro ⟨h1, h2⟩
  rcases h0 with rfl | ⟨d, hd, hd2⟩
  · omega
  · rw [hd] at h2; simp [hd2] at h2
theorem words_more {l : List UInt8} {a k q : Nat} {pre : List (Nat × Nat)} (h : a < k) {c d : UInt8} (hc : l[k]? = some c) (hb : blk c = false) (hd : l[k - 1]? = some d) (hd2 : blk d = false) (hp : wordsL l a k = pre ++ [(q, k)]) : wordsL l a (k + 1) = pre ++ [(q, k + 1)] := by
  rw [wordsL_succ (by omega)]; unfold grow; rw [if_neg (by rw [hc]; simp [hb]), if_pos ⟨h, by rw [hd]; simpa using hd2⟩, hp]
  simp
theorem wordCells_len (ps : List (Nat × Nat)) : (wordCells ps).length = ps.length * 2 := by
  induction ps with
  | nil => rfl
  | cons p ps ih => simp only [wordCells, List.flatMap_cons, List.length_append, List.length_cons, List.length_nil] at *; omega
theorem wordCells_set (pre : List (Nat × Nat)) (q k j : Nat) : (wordCells (pre ++ [(q, k)])).set (pre.length * 2 + 1) (.int .i64 (j : Nat)) = wordCells (pre ++ [(q, j)]) := by
  rw [wordCells_snoc, wordCells_snoc, List.set_append_right _ _ (by rw [wordCells_len]; omega), wordCells_len, show pre.length * 2 + 1 - pre.length * 2 = 1 from by omega]
  rfl
end Go.Wds
namespace Go.Proofs
open Go.RowKit Go.Shelf Go.Wds

set_option maxRecDepth 100000 in
set_option maxHeartbeats 2000000 in
theorem Try.rFields_calls (s : ByteArray) (a b : Int) (w : World) (hs : s.size ≤ 2000000) :
    Calls Try.prog 30 #[.string s, .int .i64 a, .int .i64 b] w fun e w' => ∃ v, e = .returned v ∧ HasWords w' v (fieldsI s a b) ∧ Below w.heap.size w w' := by
  cases h : inB s.size a b with
  | false =>
    have hc := Lib.hid fun w => Try.places_calls s a b w
    rw [h] at hc
    have H := Lib.hid (show fieldsI s a b = [] by unfold fieldsI; rw [h]; rfl)
    clear h
    go_enter Try.func30, Try.ntmps30
    go_wp2_with (go_at_call 54; (with_reducible refine (hc.out _).mono ?_); rintro e w1 ⟨rfl, rfl⟩)
    go_ret
    rw [H.out]
    exact ⟨_, rfl, hasWords_of_owns (owns_empty2 _ 79), (Below.refl _ _).alloc (Nat.le_refl _) _⟩
  | true =>
    obtain ⟨x, y, rfl, rfl, hxy, hy⟩ := inB_out h
    have hc := Lib.hid fun w => Try.places_calls s (x : Int) (y : Int) w
    have H := Lib.hid (show fieldsI s (x : Int) (y : Int) = wordsL s.data.toList x y by unfold fieldsI; rw [if_pos h]; rfl)
    rw [h] at hc
    clear h
    obtain ⟨i0, hi, hz0, hz1, hz2⟩ := info_parts Try.info79
    have HI := Lib.hid hi
    clear hi
    have O0 := Lib.hid (owns_empty2 w 79)
    go_enter Try.func30, Try.ntmps30
    go_wp2_with (go_at_call 54; (with_reducible refine (hc.out _).mono ?_); rintro e w1 ⟨rfl, rfl⟩)
    go_loopw [7, 8] (fun v i wr => ∃ k : Nat, i = .int .i64 (k : Int) ∧ x ≤ k ∧ k ≤ y ∧ wr.ownsRow w.heap.size 79 2 v (wordsL s.data.toList x k).length (wordCells (wordsL s.data.toList x k)) ∧ Below w.heap.size w wr) (fun _ i _ => y - (intOf i).toNat)
    case atStart => exact ⟨x, rfl, Nat.le_refl _, hxy, by rw [words_nil]; exact O0.out, (Below.refl _ w).alloc (Nat.le_refl _) _⟩
    case round =>
      obtain ⟨k, rfl, hxk, hky, hown, hB⟩ := hrel
      by_cases hlt : k < y
      · have hks : k < s.size := by omega
        have hB1 : w.heap.size ≤ wr.heap.size := hB.size
        have c1 := Try.blank_calls (s[k]'hks) wr
        have hg := list_get s k hks
        have hwl := words_len s.data.toList x k
        have hml : (wordsL s.data.toList x k).length + 1 ≤ maxLen := by unfold maxLen; omega
        have hml2 : ((wordsL s.data.toList x k).length + 1) * 16 ≤ 140737488355328 := by omega
        clear hwl
        cases hb : blk (s[k]'hks) with
        | true =>
          rw [hb] at c1
          have C1 := Lib.hid c1
          have HW := Lib.hid (words_skip hxk hg hb)
          clear c1 hg hb
          go_wp2_with (go_at_call 55; (with_reducible refine C1.out.mono ?_); rintro e w2 ⟨rfl, rfl⟩)
          go_roundw
          case rel => exact ⟨k + 1, by go_num, by omega, by omega, by rw [HW.out]; exact hown, hB⟩
          case measure => simp [intOf]; omega
        | false =>
          rw [hb] at c1
          have C1 := Lib.hid c1
          by_cases hfirst : x < k
          · have hks1 : k - 1 < s.size := by omega
            have hb1 : 0 ≤ (k : Int) - 1 := by omega
            have hb2 : ((k : Int) - 1).toNat = k - 1 := by omega
            have c2 := Try.blank_calls (s[k - 1]'hks1) wr
            have hg2 := list_get s (k - 1) hks1
            have d1 : decide (x < k) = true := decide_eq_true hfirst
            cases hbb : blk (s[k - 1]'hks1) with
            | true =>
              rw [hbb] at c2
              have C2 := Lib.hid c2
              have HW := Lib.hid (words_new hxk hg hb (.inr ⟨_, hg2, hbb⟩))
              clear c1 c2 hg hb hg2 hbb
              go_wp2_with (fail)
              refine C1.out.mono ?_
              rintro e w2 ⟨rfl, rfl⟩
              go_wp2_with (fail)
              refine C2.out.mono ?_
              rintro e w3 ⟨rfl, rfl⟩
              go_wp2_with (at_builtin; refine wpList_append_own _ rfl _ _ 34 rfl w.heap.size 79 i0 (.agg #[.int .i64 0, .int .i64 0]) 2 16 Try.underlying34 HI.out hz0 hz1 hz2 rfl (by decide) _ _ _ rfl (hown.alloc _) ⟨w3.heap.size, 0, none⟩ 1 1 [.int .i64 (k : Nat), .int .i64 ((k : Int) + 1)] rfl rfl (cells_new w3 #[.int .i64 (k : Nat), .int .i64 ((k : Int) + 1)] 79) (by simp [Value.oneCell']) hml hml2 (by simp; omega) ?_; intro v' W2 hown' hgrow _)
              go_roundw
              case rel => exact ⟨k + 1, by go_num, by omega, by omega, by rw [HW.out, wordCells_snoc, List.length_append]; exact hown', grown_below hB hB1 hown hgrow⟩
              case measure => simp [intOf]; omega
            | false =>
              rw [hbb] at c2
              have C2 := Lib.hid c2
              obtain ⟨pre, q, hpre⟩ := words_last hfirst hg2 hbb
              have HW := Lib.hid (words_more hfirst hg hb hg2 hbb hpre)
              have hpl : pre.length ≤ 2000000 := by
                have h1 := words_len s.data.toList x k
                rw [hpre, List.length_append] at h1
                simp only [List.length_cons, List.length_nil] at h1
                omega
              rw [hpre, List.length_append] at hown
              clear c1 c2 hg hb hg2 hbb
              have hown2 : wr.ownsRow w.heap.size 79 2 _ (pre.length + 1) (wordCells (pre ++ [(q, k)])) := hown
              rcases hown2.2 with ⟨_, h0⟩ | ⟨g, cap, cur, rfl, hgb, _⟩
              · omega
              have hset := (hown2.stored (pre.length * 2 + 1) (.int .i64 ((k + 1 : Nat) : Int)))
              rw [wordCells_set] at hset
              have hcell := hown2.cellAt (pre.length * 2 + 1) (by omega)
              rw [wordCells_snoc, List.getElem?_append_right (by rw [wordCells_len]; omega), wordCells_len, show pre.length * 2 + 1 - pre.length * 2 = 1 from by omega] at hcell
              have hfr := hown2.frozenAt (pre.length * 2 + 1)
              have HS := Lib.hid hset
              clear hset hpre hown
              simp only [List.getElem?_cons_succ, List.getElem?_cons_zero] at hcell
              go_wp2_with (fail)
              refine C1.out.mono ?_
              rintro e w2 ⟨rfl, rfl⟩
              go_wp2_with (fail)
              refine C2.out.mono ?_
              rintro e w3 ⟨rfl, rfl⟩
              go_wp2
              go_roundw
              case rel => exact ⟨k + 1, by go_num, by omega, by omega, by rw [HW.out, List.length_append]; exact HS.out.1, hB.grown HS.out.2 hB1 (fun j e => by cases e; exact hgb)⟩
              case measure => simp [intOf]; omega
          · have hkx : k = x := by omega
            have d1 : decide (x < k) = false := decide_eq_false hfirst
            have HW := Lib.hid (words_new hxk hg hb (.inl hkx))
            clear c1 hg hb hfirst hkx
            go_wp2_with (fail)
            refine C1.out.mono ?_
            rintro e w2 ⟨rfl, rfl⟩
            go_wp2_with (at_builtin; refine wpList_append_own _ rfl _ _ 34 rfl w.heap.size 79 i0 (.agg #[.int .i64 0, .int .i64 0]) 2 16 Try.underlying34 HI.out hz0 hz1 hz2 rfl (by decide) _ _ _ rfl (hown.alloc _) ⟨w2.heap.size, 0, none⟩ 1 1 [.int .i64 (k : Nat), .int .i64 ((k : Int) + 1)] rfl rfl (cells_new w2 #[.int .i64 (k : Nat), .int .i64 ((k : Int) + 1)] 79) (by simp [Value.oneCell']) hml hml2 (by simp; omega) ?_; intro v' W2 hown' hgrow _)
            go_roundw
            case rel => exact ⟨k + 1, by go_num, by omega, by omega, by rw [HW.out, wordCells_snoc, List.length_append]; exact hown', grown_below hB hB1 hown hgrow⟩
            case measure => simp [intOf]; omega
      · have hkk : k = y := by omega
        subst hkk
        have HO := Lib.hid (hasWords_of_owns hown)
        clear hown
        go_wp2
        go_ret
        rw [H.out]
        exact ⟨_, rfl, HO.out, hB⟩
#print axioms Try.rFields_calls
end Go.Proofs
/- Rows of words in memory: what they read as. No program's functions. -/
namespace Go.Proofs
open Go.RowKit Go.Shelf Go.Cur Go.Wds Go.Sheet
/-- A slice that reads as these rows. -/
def HasRows (W : World) (v : Value) (l : List Rw) : Prop := (l = [] ∧ ∃ a c, v = .slice a 0 c) ∨ ∃ g cap, v = .slice (some ⟨g, 0, none⟩) l.length cap ∧ g < W.heap.size ∧ ∀ (i : Nat) (p : Rw), l[i]? = some p → W.cell? ⟨g, i * 2, none⟩ = some (.int .i64 (p.1 : Nat)) ∧ ∃ u, W.cell? ⟨g, i * 2 + 1, none⟩ = some u ∧ HasWords W u p.2
theorem HasRows.later {W W' : World} {v : Value} {l : List Rw} (h : HasRows W v l) (hb : Below W.heap.size W W') : HasRows W' v l := by
  rcases h with h | ⟨g, cap, h1, h2, h3⟩
  · exact .inl h
  · refine .inr ⟨g, cap, h1, Nat.lt_of_lt_of_le h2 hb.size, fun i p hp => ?_⟩
    obtain ⟨e1, u, e2, e3⟩ := h3 i p hp
    exact ⟨(hb.cell (p := ⟨g, _, none⟩) h2).trans e1, u, (hb.cell (p := ⟨g, _, none⟩) h2).trans e2, e3.later hb⟩
theorem HasRows.dat {W : World} {v : Value} {l : List Rw} (h : HasRows W v l) : ∃ ao cap, v = .slice ao l.length cap ∧ (l = [] ∨ ∃ g, ao = some ⟨g, 0, none⟩ ∧ g < W.heap.size ∧ ∀ (i : Nat) (p : Rw), l[i]? = some p → W.cell? ⟨g, i * 2, none⟩ = some (.int .i64 (p.1 : Nat)) ∧ ∃ u, W.cell? ⟨g, i * 2 + 1, none⟩ = some u ∧ HasWords W u p.2) := by
  rcases h with ⟨rfl, a, c, rfl⟩ | ⟨g, cap, rfl, h2, h3⟩
  · exact ⟨a, c, rfl, .inl rfl⟩
  · exact ⟨_, cap, rfl, .inr ⟨g, rfl, h2, h3⟩⟩
/-- The two cells of a row. -/
def rwC (p : Nat × Value) : List Value := [.int .i64 (p.1 : Nat), p.2]
theorem rwC_len (p : Nat × Value) : (rwC p).length = 2 := rfl
/-- The values are these rows'. -/
def ValsW (W : World) (us : List (Nat × Value)) (l : List Rw) : Prop := us.length = l.length ∧ ∀ (i : Nat) (p : Rw), l[i]? = some p → ∃ u, us[i]? = some (p.1, u) ∧ HasWords W u p.2
theorem ValsW.nil (W : World) : ValsW W [] [] := ⟨rfl, fun i p h => by simp at h⟩
theorem ValsW.later {W W' : World} {us : List (Nat × Value)} {l : List Rw} (h : ValsW W us l) (hb : Below W.heap.size W W') : ValsW W' us l :=
  ⟨h.1, fun i p hi => by obtain ⟨u, h1, h2⟩ := h.2 i p hi; exact ⟨u, h1, h2.later hb⟩⟩
theorem ValsW.snoc {W : World} {us : List (Nat × Value)} {l : List Rw} {u : Value} {p : Rw} (h : ValsW W us l) (hu : HasWords W u p.2) : ValsW W (us ++ [(p.1, u)]) (l ++ [p]) := by
  refine ⟨by simp [h.1], fun i r hi => ?_⟩
  by_cases hlt : i < l.length
  · rw [List.getElem?_append_left hlt] at hi
    obtain ⟨v, h1, h2⟩ := h.2 i r hi
    exact ⟨v, by rw [List.getElem?_append_left (by rw [h.1]; exact hlt)]; exact h1, h2⟩
  · rw [List.getElem?_append_right (by omega)] at hi
    have hlen := (List.getElem?_eq_some_iff.1 hi).1
    have e0 : i = l.length := by simp at hlen; omega
    subst e0
    simp only [Nat.sub_self, List.getElem?_cons_zero, Option.some.injEq] at hi
    subst hi
    exact ⟨u, by rw [List.getElem?_append_right (by rw [h.1]; exact Nat.le_refl _), h.1]; simp, hu⟩
/-- A row of rows that a call has made. -/
structure RowsR (base : Nat) (e : TypeId) (W : World) (v : Value) (us : List (Nat × Value)) (l : List Rw) : Prop where
  row : W.ownsRow base e 2 v us.length (us.flatMap rwC)
  vals : ValsW W us l
  start : us = [] → ∃ a, v = .slice a 0 0
theorem rows_of {base : Nat} {e : TypeId} {W : World} {v : Value} {us : List (Nat × Value)} {l : List Rw} (h : RowsR base e W v us l) : HasRows W v l := by
  rcases owns_flat rwC_len h.row with ⟨rfl, rfl⟩ | ⟨g, cap, rfl, _, _, h4, h5⟩
  · have : l = [] := List.length_eq_zero_iff.1 h.vals.1.symm
    exact .inl ⟨this, none, 0, rfl⟩
  · rw [h.vals.1]
    refine .inr ⟨g, cap, rfl, h4, fun i p hp => ?_⟩
    obtain ⟨u, e1, e2⟩ := h.vals.2 i p hp
    have k0 := h5 i (p.1, u) 0 _ e1 rfl
    have k1 := h5 i (p.1, u) 1 _ e1 rfl
    rw [Nat.zero_add] at k0 k1
    exact ⟨k0, u, k1, e2⟩
/-- Words stand where an own row of rows is appended to. -/
theorem words_grown {W W' : World} {base : Nat} {e : TypeId} {v u : Value} {us : List (Nat × Value)} {ps : List (Nat × Nat)} (h : HasWords W u ps) (hr : W.ownsRow base e 2 v us.length (us.flatMap rwC)) (hs : us = [] → ∃ a, v = .slice a 0 0) (hsl : ∀ p ∈ us, ∃ a n c, p.2 = .slice a n c) (hg : W.grownBy W' v.ownBlock) : HasWords W' u ps := by
  obtain ⟨ao, cap, rfl, h1, hc⟩ := h
  refine ⟨ao, cap, rfl, fun i a b hi => ?_, hc⟩
  obtain ⟨g, rfl, h2, h3, h4⟩ := h1 i a b hi
  have hne : v.ownBlock ≠ some g := by
    intro hb
    obtain ⟨a0, b0, hi0⟩ : ∃ a0 b0, ps[0]? = some (a0, b0) := ⟨_, _, List.getElem?_eq_getElem (Nat.lt_of_le_of_lt (Nat.zero_le i) (List.getElem?_eq_some_iff.1 hi).1)⟩
    obtain ⟨g', eg, _, k0, k1⟩ := h1 0 a0 b0 hi0
    obtain rfl : g = g' := congrArg Addr.block (Option.some.inj eg)
    cases us with
    | nil =>
      obtain ⟨ad, rfl⟩ := hs rfl
      rcases hr.2 with ⟨h0, _⟩ | ⟨gg, cp, cur, hv, _, hg2, _, _, hcs, _⟩
      · cases h0; simp [Value.ownBlock] at hb
      · cases hv
        obtain rfl : gg = g := Option.some.inj hb
        unfold World.cell? at k0
        rw [hg2] at k0
        have : cur = #[] := Array.eq_empty_of_size_eq_zero (by simpa using hcs)
        subst this
        simp at k0
    | cons p us =>
      rcases owns_flat rwC_len hr with ⟨h0, _⟩ | ⟨gg, cp, rfl, _, _, _, h5⟩
      · cases h0
      · obtain rfl : gg = g := Option.some.inj hb
        have := h5 0 p 1 p.2 rfl rfl
        simp only [Nat.zero_mul, Nat.zero_add] at this k1
        rw [k1] at this
        obtain ⟨a1, n1, c1, e1⟩ := hsl p (by simp)
        rw [e1] at this
        cases this
  have hblk := hg.block g h2 (fun e => hne e.symm)
  refine ⟨g, rfl, Nat.lt_of_lt_of_le h2 hg.size, ?_, ?_⟩
  · unfold World.cell? at h3 ⊢; rw [hblk]; exact h3
  · unfold World.cell? at h4 ⊢; rw [hblk]; exact h4
theorem ValsW.slices {W : World} {us : List (Nat × Value)} {l : List Rw} (h : ValsW W us l) : ∀ p ∈ us, ∃ a n c, p.2 = .slice a n c := by
  intro p hp
  obtain ⟨i, hi, rfl⟩ := List.getElem_of_mem hp
  obtain ⟨r, hr⟩ : ∃ r, l[i]? = some r := ⟨_, List.getElem?_eq_getElem (by rw [← h.1]; exact hi)⟩
  obtain ⟨u, e1, ao, cap, e2, _⟩ := h.2 i r hr
  rw [List.getElem?_eq_getElem hi] at e1
  have := Option.some.inj e1
  rw [this]
  exact ⟨_, _, _, e2⟩
theorem RowsR.grow {base : Nat} {e : TypeId} {W W' : World} {v v' u : Value} {us : List (Nat × Value)} {l : List Rw} {p : Rw} (h : RowsR base e W v us l) (hu : HasWords W u p.2) (hg : W.grownBy W' v.ownBlock) (hr : W'.ownsRow base e 2 v' (us.length + 1) (us.flatMap rwC ++ rwC (p.1, u))) : RowsR base e W' v' (us ++ [(p.1, u)]) (l ++ [p]) := by
  have hsl := h.vals.slices
  refine ⟨by rw [List.length_append, List.flatMap_append]; simpa using hr, ?_, fun e => by simp at e⟩
  refine ValsW.snoc ⟨h.vals.1, fun i r hi => ?_⟩ (words_grown hu h.row h.start hsl hg)
  obtain ⟨x, e1, e2⟩ := h.vals.2 i r hi
  exact ⟨x, e1, words_grown e2 h.row h.start hsl hg⟩
theorem RowsR.next {base : Nat} {e : TypeId} {W W' : World} {v : Value} {us : List (Nat × Value)} {l : List Rw} (h : RowsR base e W v us l) (hb : Below W.heap.size W W') : RowsR base e W' v us l := ⟨ownsRow_below h.row hb (Nat.le_refl _), h.vals.later hb, h.start⟩
theorem RowsR.nil (base : Nat) (e : TypeId) (W : World) : RowsR base e W (.slice none 0 0) [] [] := ⟨⟨by simp, .inl ⟨rfl, rfl⟩⟩, ValsW.nil W, fun _ => ⟨_, rfl⟩⟩
theorem RowsR.empty (W : World) (e : TypeId) : RowsR W.heap.size e (W.alloc (.cells #[] e)) (.slice (some ⟨W.heap.size, 0, none⟩) 0 0) [] [] := ⟨cowns_empty W e 2, ValsW.nil _, fun _ => ⟨_, rfl⟩⟩
end Go.Proofs
/- cursor.Place of this program, in plain words over the parts of a text. Conditions: a text of at most a million bytes. -/
namespace Go.Proofs
open Go.RowKit Go.Shelf Go.Cur
attribute [local go_sem] Oper.semAt_some


end Go.Proofs
/- What entrepotlaw01.shown answers: true. No conditions. -/
namespace Go.Proofs
open Go.RowKit Go.Shelf Go.Cur

/-- v is a slice that holds the lines ps in W. -/
def HasLines (W : World) (v : Value) (ps : List (Nat × Nat × Nat)) : Prop :=
  ∃ (ao : Option Addr) (cap : Nat), v = .slice ao ps.length cap ∧ ∀ (i a b c : Nat), ps[i]? = some (a, b, c) → ∃ g, ao = some ⟨g, 0, none⟩ ∧ g < W.heap.size ∧
    W.cell? ⟨g, i * 3, none⟩ = some (.int .i64 (a : Nat)) ∧ W.cell? ⟨g, i * 3 + 1, none⟩ = some (.int .i64 (b : Nat)) ∧ W.cell? ⟨g, i * 3 + 2, none⟩ = some (.int .i64 (c : Nat))

theorem lineCells_get : ∀ {ps : List (Nat × Nat × Nat)} {i a b c : Nat}, ps[i]? = some (a, b, c) →
    (lineCells ps)[i * 3]? = some (.int .i64 (a : Nat)) ∧ (lineCells ps)[i * 3 + 1]? = some (.int .i64 (b : Nat)) ∧ (lineCells ps)[i * 3 + 2]? = some (.int .i64 (c : Nat))
  | [], i, a, b, c, h => by simp at h
  | p :: ps, 0, a, b, c, h => by
    have e : p = (a, b, c) := by simpa using h
    subst e
    exact ⟨rfl, rfl, rfl⟩
  | p :: ps, i + 1, a, b, c, h => by
    have h' : ps[i]? = some (a, b, c) := by simpa using h
    have ih := lineCells_get h'
    have e : ∀ j, (lineCells (p :: ps))[(i + 1) * 3 + j]? = (lineCells ps)[i * 3 + j]? := fun j => by
      rw [show (i + 1) * 3 + j = (i * 3 + j) + 1 + 1 + 1 from by omega]; rfl
    exact ⟨(e 0).trans ih.1, (e 1).trans ih.2.1, (e 2).trans ih.2.2⟩

theorem hasLines_of_owns {W : World} {base : Nat} {e : TypeId} {v : Value} {ps : List (Nat × Nat × Nat)} (h : W.ownsRow base e 3 v ps.length (lineCells ps)) : HasLines W v ps := by
  rcases h.2 with ⟨rfl, h0⟩ | ⟨g, cap, cur, rfl, h1, h2, _⟩
  · refine ⟨none, 0, by rw [h0], fun i a b c hi => ?_⟩
    have := (List.getElem?_eq_some_iff.1 hi).1
    omega
  · refine ⟨_, cap, rfl, fun i a b c hi => ⟨g, rfl, (Array.getElem?_eq_some_iff.1 h2).1, ?_⟩⟩
    have hc := World.ownsRow.cells h (g := g) rfl
    have hl := lineCells_get hi
    have e : ∀ j, ((⟨g, 0, none⟩ : Addr).add j) = ⟨g, j, none⟩ := fun j => by
      unfold Addr.add
      split
      · rename_i h0; rw [h0]
      · simp
    have h3 := hc _ _ hl.1
    have h4 := hc _ _ hl.2.1
    have h5 := hc _ _ hl.2.2
    rw [e] at h3 h4 h5
    exact ⟨h3, h4, h5⟩

theorem HasLines.below {W W' : World} {v : Value} {ps : List (Nat × Nat × Nat)} (h : HasLines W v ps) {n₀ : Nat} (hb : Below n₀ W W') (hn : W.heap.size ≤ n₀) : HasLines W' v ps := by
  obtain ⟨ao, cap, rfl, h⟩ := h
  refine ⟨ao, cap, rfl, fun i a b c hi => ?_⟩
  obtain ⟨g, h1, h2, h3, h4, h5⟩ := h i a b c hi
  have := hb.size
  exact ⟨g, h1, by omega, (hb.cell (p := ⟨g, _, none⟩) (by simp; omega)).trans h3, (hb.cell (p := ⟨g, _, none⟩) (by simp; omega)).trans h4, (hb.cell (p := ⟨g, _, none⟩) (by simp; omega)).trans h5⟩

def sA : ByteArray := ⟨#[97, 98, 13, 10, 99]⟩
def sB : ByteArray := ⟨#[32, 10, 9, 10, 120]⟩


theorem Try.RowsB (w : World) : Calls Try.prog 27 #[.string ⟨#[32, 10, 9, 10, 120]⟩] w fun e w' => ∃ ao cap, e = .returned (.slice ao 1 cap) ∧ Below w.heap.size w w' := by
  refine (Try.Rows_calls sB w (by decide)).mono ?_
  rintro e w' ⟨v, rfl, h1, h2⟩
  have hl : rowsOf sB.data.toList = [(4, 5, 5)] := by decide
  rw [hl] at h1
  obtain ⟨ao, cap, rfl, h3⟩ := hasLines_of_owns h1
  exact ⟨ao, cap, rfl, h2⟩


end Go.Proofs
/- The document's own Lines of this program, as a contract. Conditions: a text of at most a million bytes. -/
namespace Go.Cur
theorem takeWhile_all {α : Type} {p : α → Bool} {l r : List α} (h : ∀ x ∈ l, p x = true) : (l ++ r).takeWhile p = l ++ r.takeWhile p := by
  induction l with
  | nil => rfl
  | cons x l ih =>
    rw [List.cons_append, List.takeWhile_cons, if_pos (h x (by simp)), ih (fun y hy => h y (by simp [hy]))]; rfl
theorem lines_split {l : List UInt8} {d : List (Nat × Nat)} {a : Nat} (h : spans l = d ++ [(a, l.length)]) (hd : ∀ p ∈ d, p.1 < l.length) : lines l = d.map (lineAt l) ++ if a = l.length then [] else [(a, l.length, l.length)] := by
  unfold lines
  rw [h, takeWhile_all (fun p hp => by have := hd p hp; simp; omega), List.map_append]
  congr 1
  by_cases ha : a = l.length
  · simp [ha]
  · have hb : (a != l.length) = true := by rw [bne_iff_ne]; exact ha
    simp [List.takeWhile, ha, hb, lineAt]
theorem split_len {l : List UInt8} {d r : List (Nat × Nat)} (h : spans l = d ++ r) : d.length ≤ l.length + 1 := by
  have h1 := spans_len l 0 0
  have h2 : (spans l).length = d.length + r.length := by rw [h, List.length_append]
  simp only [spans] at h2
  omega
end Go.Cur
namespace Go.Proofs
open Go.RowKit Go.Shelf Go.Cur

theorem Try.info75 : (Try.prog.info? 75).map (fun i => (i.zero, i.size, i.bytes)) = some (some (.agg #[.int .i64 0, .int .i64 0, .int .i64 0]), 3, 24) := by kernel_rfl
theorem owns_empty (w : World) (e : TypeId) : (w.alloc (.cells #[] e)).ownsRow w.heap.size e 3 (.slice (some ⟨w.heap.size, 0, none⟩) 0 0) 0 [] :=
  ⟨rfl, .inr ⟨w.heap.size, 0, #[], rfl, Nat.le_refl _, World.alloc_heap_new w _, Nat.le_refl _, Nat.zero_le _, rfl, rfl⟩⟩

theorem grown_below {n₀ : Nat} {w wr w1 : World} {tmp : Obj} {v : Value} {e : TypeId} {size k : Nat} {xs : List Value} (hB : Below n₀ w wr) (hn : n₀ ≤ wr.heap.size) (hown : wr.ownsRow n₀ e size v k xs) (hgrow : (wr.alloc tmp).grownBy w1 v.ownBlock) : Below n₀ w w1 :=
  (hB.alloc hn tmp).grown hgrow (by simp; omega) (fun j e => (hown.lt j e).1)

set_option maxRecDepth 100000 in
set_option maxHeartbeats 2000000 in
theorem Try.rLines_calls (s : ByteArray) (w : World) (hs : s.size ≤ 1000000) :
    Calls Try.prog 52 #[.string s] w fun e w' => ∃ v, e = .returned v ∧ w'.ownsRow w.heap.size 75 3 v (lines s.data.toList).length (lineCells (lines s.data.toList)) ∧ Below w.heap.size w w' := by
  obtain ⟨i0, hi, hz0, hz1, hz2⟩ := info_parts Try.info75
  have hl : s.data.toList.length = s.size := by simp
  have HL := Lib.hid hl
  clear hl
  go_enter Try.func52, Try.ntmps52
  go_wp2
  go_loopw [3, 4, 5] (fun v f i wr => ∃ (k a : Nat) (d : List (Nat × Nat)), wr.ownsRow w.heap.size 75 3 v d.length (lineCells (d.map (lineAt s.data.toList))) ∧ f = .int .i64 (a : Int) ∧ i = .int .i64 (k : Int) ∧ k ≤ s.size ∧ a ≤ k ∧ spans s.data.toList = d ++ spansFrom (s.data.toList.drop k) k a ∧ (∀ p ∈ d, p.1 < s.size) ∧ Below w.heap.size w wr)
    (fun _ _ i _ => s.size - (intOf i).toNat)
  case atStart =>
    exact ⟨0, 0, [], owns_empty w 75, rfl, rfl, Nat.zero_le _, Nat.le_refl _, rfl, (fun p hp => by cases hp), (Below.refl _ w).alloc (Nat.le_refl _) _⟩
  case round =>
    obtain ⟨k, a, d, hown, rfl, rfl, hk, hak, hsp, hd, hB⟩ := hrel
    have hdl := split_len hsp
    rw [HL.out] at hdl
    have hml : d.length + 1 ≤ maxLen := by unfold maxLen; omega
    have hml2 : (d.length + 1) * 24 ≤ 140737488355328 := by omega
    have hB1 : w.heap.size ≤ wr.heap.size := hB.size
    by_cases hlt : k < s.size
    · by_cases hb : s[k]'hlt = 10
      · have hbb : (((s[k]'hlt).toNat : Int) != 10) = false := by rw [hb]; rfl
        have hg := list_get s k hlt
        rw [hb] at hg
        rw [spans_feed _ _ _ hg] at hsp
        have hsp2 : spans s.data.toList = (d ++ [(a, k)]) ++ spansFrom (s.data.toList.drop (k + 1)) (k + 1) (k + 1) := by rw [hsp, List.append_assoc]; rfl
        have hd2 : ∀ p ∈ d ++ [(a, k)], p.1 < s.size := fun p hp => by
          rcases List.mem_append.1 hp with h | h
          · exact hd p h
          · simp at h; subst h; simp only; omega
        have HS := Lib.hid hsp2
        have HD := Lib.hid hd2
        have hne : ¬ k = s.size := by omega
        by_cases h13 : a < k ∧ s.get! (k - 1) = 13
        · have hka : decide ((a : Int) < (k : Int)) = true := decide_eq_true (by omega)
          have hka2 : decide (a < k) = true := decide_eq_true h13.1
          have hk1 : k - 1 < s.size := by omega
          have hb1 : 0 ≤ (k : Int) - 1 := by omega
          have hb2 : ((k : Int) - 1).toNat = k - 1 := by omega
          have hg1 := get_of s (k - 1) hk1
          rw [h13.2] at hg1
          have hc13 : (((s[k - 1]'hk1).toNat : Int) == 13) = true := by rw [← hg1]; rfl
          have hla : lineAt s.data.toList (a, k) = (a, k - 1, k + 1) := by
            simp only [lineAt]; rw [if_neg (by rw [HL.out]; exact hne), list_get s (k - 1) hk1, ← hg1, if_pos ⟨h13.1, rfl⟩]
          have hcells : lineCells ((d ++ [(a, k)]).map (lineAt s.data.toList)) = lineCells (d.map (lineAt s.data.toList)) ++ [.int .i64 (a : Nat), .int .i64 ((k : Int) - 1), .int .i64 ((k : Int) + 1)] := by
            rw [List.map_append, List.map_cons, List.map_nil, hla, lineCells_snoc]
            congr 1
            rw [show ((k - 1 : Nat) : Int) = (k : Int) - 1 from by omega]; rfl
          have HC := Lib.hid hcells
          have HI := Lib.hid hi
          clear hsp hsp2 hd hd2 hg hb hla hcells hg1 h13 hne hi hdl
          go_wp2_with (at_builtin; refine wpList_append_own _ rfl _ _ 73 rfl w.heap.size 75 i0 (.agg #[.int .i64 0, .int .i64 0, .int .i64 0]) 3 24 Try.underlying73 HI.out hz0 hz1 hz2 rfl (by decide) _ _ _ rfl (hown.alloc _) ⟨wr.heap.size, 0, none⟩ 1 1 [.int .i64 (a : Nat), .int .i64 ((k : Int) - 1), .int .i64 ((k : Int) + 1)] rfl rfl (curcells_new wr #[.int .i64 (a : Nat), .int .i64 ((k : Int) - 1), .int .i64 ((k : Int) + 1)] 75) (by simp [Value.oneCell']) hml hml2 (by simp; omega) ?_; intro v' w1 hown' hgrow _)
          go_roundw
          case rel => exact ⟨k + 1, k + 1, d ++ [(a, k)], by rw [List.length_append, HC.out]; exact hown', by go_num, by go_num, by omega, Nat.le_refl _, HS.out, HD.out, grown_below hB hB1 hown hgrow⟩
          case measure => simp [intOf]; omega
        · have hla : lineAt s.data.toList (a, k) = (a, k, k + 1) := by
            simp only [lineAt]
            rw [if_neg (by rw [HL.out]; exact hne), if_neg]
            rintro ⟨q1, q2⟩
            rw [list_get s (k - 1) (by omega)] at q2
            exact h13 ⟨q1, by rw [get_of s (k - 1) (by omega)]; exact Option.some.inj q2⟩
          have hcells : lineCells ((d ++ [(a, k)]).map (lineAt s.data.toList)) = lineCells (d.map (lineAt s.data.toList)) ++ [.int .i64 (a : Nat), .int .i64 (k : Int), .int .i64 ((k : Int) + 1)] := by
            rw [List.map_append, List.map_cons, List.map_nil, hla, lineCells_snoc]; rfl
          have HC := Lib.hid hcells
          have HI := Lib.hid hi
          by_cases hka0 : a < k
          · have hka : decide ((a : Int) < (k : Int)) = true := decide_eq_true (by omega)
            have hka2 : decide (a < k) = true := decide_eq_true hka0
            have hk1 : k - 1 < s.size := by omega
            have hb1 : 0 ≤ (k : Int) - 1 := by omega
            have hb2 : ((k : Int) - 1).toNat = k - 1 := by omega
            have hc13 : (((s[k - 1]'hk1).toNat : Int) == 13) = false := by
              rw [beq_eq_false_iff_ne]
              intro e
              exact h13 ⟨hka0, by
                rw [get_of s (k - 1) hk1]
                exact UInt8.toNat_inj.1 (by have e' : (s[k - 1]'hk1).toNat = 13 := by omega
                                            exact e')⟩
            clear hsp hsp2 hd hd2 hg hb hla hcells h13 hne hi hdl
            go_wp2_with (at_builtin; refine wpList_append_own _ rfl _ _ 73 rfl w.heap.size 75 i0 (.agg #[.int .i64 0, .int .i64 0, .int .i64 0]) 3 24 Try.underlying73 HI.out hz0 hz1 hz2 rfl (by decide) _ _ _ rfl (hown.alloc _) ⟨wr.heap.size, 0, none⟩ 1 1 [.int .i64 (a : Nat), .int .i64 ((k : Int)), .int .i64 ((k : Int) + 1)] rfl rfl (curcells_new wr #[.int .i64 (a : Nat), .int .i64 ((k : Int)), .int .i64 ((k : Int) + 1)] 75) (by simp [Value.oneCell']) hml hml2 (by simp; omega) ?_; intro v' w1 hown' hgrow _)
            go_roundw
            case rel => exact ⟨k + 1, k + 1, d ++ [(a, k)], by rw [List.length_append, HC.out]; exact hown', by go_num, by go_num, by omega, Nat.le_refl _, HS.out, HD.out, grown_below hB hB1 hown hgrow⟩
            case measure => simp [intOf]; omega
          · have hka : decide ((a : Int) < (k : Int)) = false := decide_eq_false (by omega)
            have hka2 : decide (a < k) = false := decide_eq_false hka0
            clear hsp hsp2 hd hd2 hg hb hla hcells h13 hne hi hdl
            go_wp2_with (at_builtin; refine wpList_append_own _ rfl _ _ 73 rfl w.heap.size 75 i0 (.agg #[.int .i64 0, .int .i64 0, .int .i64 0]) 3 24 Try.underlying73 HI.out hz0 hz1 hz2 rfl (by decide) _ _ _ rfl (hown.alloc _) ⟨wr.heap.size, 0, none⟩ 1 1 [.int .i64 (a : Nat), .int .i64 ((k : Int)), .int .i64 ((k : Int) + 1)] rfl rfl (curcells_new wr #[.int .i64 (a : Nat), .int .i64 ((k : Int)), .int .i64 ((k : Int) + 1)] 75) (by simp [Value.oneCell']) hml hml2 (by simp; omega) ?_; intro v' w1 hown' hgrow _)
            go_roundw
            case rel => exact ⟨k + 1, k + 1, d ++ [(a, k)], by rw [List.length_append, HC.out]; exact hown', by go_num, by go_num, by omega, Nat.le_refl _, HS.out, HD.out, grown_below hB hB1 hown hgrow⟩
            case measure => simp [intOf]; omega
      · have hbb : (((s[k]'hlt).toNat : Int) != 10) = true := by
          rw [bne_iff_ne]
          intro e
          exact hb (UInt8.toNat_inj.1 (by have e' : (s[k]'hlt).toNat = 10 := by omega
                                          exact e'))
        have hsp2 : spans s.data.toList = d ++ spansFrom (s.data.toList.drop (k + 1)) (k + 1) a := by
          rw [hsp, spans_sign _ a 1 k (by rw [HL.out]; omega) (fun j h1 h2 => by
            have e : j = k := by omega
            subst e
            rw [list_get s j hlt]
            intro e
            exact hb (Option.some.inj e))]
        have HS := Lib.hid hsp2
        have HD := Lib.hid hd
        clear hsp hsp2 hd hb
        go_wp2
        go_roundw
        case rel => exact ⟨k + 1, a, d, hown, rfl, by go_num, by omega, by omega, HS.out, HD.out, hB⟩
        case measure => simp [intOf]; omega
    · have hks : k = s.size := by omega
      subst hks
      rw [← HL.out, List.drop_length] at hsp
      have hfin := lines_split (a := a) hsp (by rw [HL.out]; exact hd)
      rw [HL.out] at hfin
      by_cases ha : a = s.size
      · rw [if_pos ha, List.append_nil] at hfin
        have HF := Lib.hid hfin
        have hda : decide (a < s.size) = false := decide_eq_false (by omega)
        have hda2 : decide ((a : Int) < (s.size : Int)) = false := decide_eq_false (by omega)
        clear hsp hd hfin ha
        go_wp2
        go_ret
        refine ⟨_, rfl, ?_, hB⟩
        rw [HF.out, List.length_map]
        exact hown
      · rw [if_neg ha] at hfin
        have hda : decide (a < s.size) = true := decide_eq_true (by omega)
        have hda2 : decide ((a : Int) < (s.size : Int)) = true := decide_eq_true (by omega)
        have HF := Lib.hid hfin
        have HI := Lib.hid hi
        clear hsp hd hfin ha hi hdl
        go_wp2_with (at_builtin; refine wpList_append_own _ rfl _ _ 73 rfl w.heap.size 75 i0 (.agg #[.int .i64 0, .int .i64 0, .int .i64 0]) 3 24 Try.underlying73 HI.out hz0 hz1 hz2 rfl (by decide) _ _ _ rfl (hown.alloc _) ⟨wr.heap.size, 0, none⟩ 1 1 [.int .i64 (a : Nat), .int .i64 (s.size : Nat), .int .i64 (s.size : Nat)] rfl rfl (curcells_new wr #[.int .i64 (a : Nat), .int .i64 (s.size : Nat), .int .i64 (s.size : Nat)] 75) (by simp [Value.oneCell']) hml hml2 (by simp; omega) ?_; intro v' w1 hown' hgrow _)
        go_ret
        refine ⟨_, rfl, ?_, grown_below hB hB1 hown hgrow⟩
        rw [HF.out, lineCells_snoc, List.length_append, List.length_map]
        exact hown'
#print axioms Try.rLines_calls
end Go.Proofs
