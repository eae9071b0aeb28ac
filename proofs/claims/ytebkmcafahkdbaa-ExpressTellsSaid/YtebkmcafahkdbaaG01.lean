/- Plain facts on instances: what may be, their faults, their normal form; no program. -/
import Derived.Shelf.Abstract
import Derived.Shelf.RegionOpen
import Derived.WalkKit
import Derived.LoopNIn
import Derived.LoopIn
import Derived.Lib.OthersKept
import Derived.Lib.Hide
import Derived.Laws.AppendOwn
import Derived.Laws.OwnMore
import Derived.Lib.QuietBelow
import Derived.RangeFuncRecord
import Derived.Deep.QuietTactic
import Derived.BigQuiet
import Derived.Test.YtebkmcafahkdbaaProg
import Derived.Laws.MakeOwn
namespace Go.Canon
/-- A node: the depot, or a customer. -/
structure Nd where
  x : Int
  y : Int
  demand : Int
  ready : Int
  due : Int
  service : Int
  mate : Int
/-- An instance. -/
structure Ins where
  name : ByteArray
  kind : Int
  metric : Int
  scale : Int
  cap : Int
  fleet : Int
  nodes : List Nd
  matrix : List Int
theorem Nd.ext' {a b : Nd} (h1 : a.x = b.x) (h2 : a.y = b.y) (h3 : a.demand = b.demand) (h4 : a.ready = b.ready) (h5 : a.due = b.due) (h6 : a.service = b.service) (h7 : a.mate = b.mate) : a = b := by
  cases a; cases b; simp_all
instance : DecidableEq Nd := fun a b =>
  if h : a.x = b.x ∧ a.y = b.y ∧ a.demand = b.demand ∧ a.ready = b.ready ∧ a.due = b.due ∧ a.service = b.service ∧ a.mate = b.mate then
    isTrue (Nd.ext' h.1 h.2.1 h.2.2.1 h.2.2.2.1 h.2.2.2.2.1 h.2.2.2.2.2.1 h.2.2.2.2.2.2)
  else isFalse fun e => h (by rw [e]; exact ⟨rfl, rfl, rfl, rfl, rfl, rfl, rfl⟩)
def zeroNd : Nd := ⟨0, 0, 0, 0, 0, 0, 0⟩
def number (n : Int) : Bool := decide (0 ≤ n) && decide (n ≤ 100000000)
def signed (n : Int) : Bool := decide (-100000000 ≤ n) && decide (n ≤ 100000000)
def at' (x : Ins) (i : Nat) : Nd := x.nodes.getD i zeroNd
/-! What may be. -/
def matrixB (x : Ins) : Bool :=
  if x.metric ≠ 0 then decide (x.matrix.length = 0)
  else decide (x.matrix.length = x.nodes.length * x.nodes.length) && (List.range (x.nodes.length * x.nodes.length)).all fun i => number (x.matrix.getD i 0) && !(decide (i % (x.nodes.length + 1) = 0) && decide (x.matrix.getD i 0 ≠ 0))
def coordB (metric : Int) (d : Nd) : Bool := signed d.x && signed d.y && (decide (metric ≠ 0) || (decide (d.x = 0) && decide (d.y = 0)))
def demandB (kind : Int) (i : Nat) (d : Nd) : Bool := if kind = 1 ∨ i = 0 then decide (d.demand = 0) else number d.demand || (decide (kind = 4) && signed d.demand)
def windowB (kind : Int) (d : Nd) : Bool := if kind = 1 ∨ kind = 2 then decide (d.ready = 0) && decide (d.due = 0) else number d.ready && number d.due && decide (d.ready ≤ d.due)
def serviceB (kind : Int) (d : Nd) : Bool := if kind = 1 ∨ kind = 2 then decide (d.service = 0) else number d.service
/-- A demand turned over, in 64 bits. -/
def neg64 (a : Int) : Int := if (-a) % 18446744073709551616 ≥ 9223372036854775808 then (-a) % 18446744073709551616 - 18446744073709551616 else (-a) % 18446744073709551616
def mateB (x : Ins) (i : Nat) : Bool :=
  if x.kind ≠ 4 ∨ i = 0 then decide ((at' x i).mate = 0)
  else if (at' x i).mate < 1 ∨ (x.nodes.length : Int) ≤ (at' x i).mate ∨ (at' x i).mate = (i : Int) ∨ (at' x (at' x i).mate.toNat).mate ≠ (i : Int) then false
  else decide ((at' x i).demand ≠ 0) && decide ((at' x (at' x i).mate.toNat).demand = neg64 (at' x i).demand)
/-! The faults. -/
def says (b : Bool) (f : Nat) (n : Nat) : List (Nat × Nat) := if b = true then [] else [(f, n)]
def scaleB (metric scale : Int) : Bool := decide (0 ≤ scale) && decide (scale ≤ 6) && !(decide (metric = 0) && decide (scale ≠ 0))
def capB (kind cap : Int) : Bool := if kind = 1 then decide (cap = 0) else decide (1 ≤ cap) && decide (cap ≤ 100000000)
def fleetB (kind fleet : Int) : Bool := if kind = 1 then decide (fleet = 0) else decide (0 ≤ fleet) && decide (fleet ≤ 400)
def kindB (kind : Int) : Bool := decide (1 ≤ kind) && decide (kind ≤ 4)
def metricB (metric : Int) : Bool := decide (0 ≤ metric) && decide (metric ≤ 6)
def heads (N : ByteArray → Bool) (x : Ins) : List (Nat × Nat) :=
  says (N x.name) 1 0 ++ says (kindB x.kind) 2 0 ++ says (metricB x.metric) 3 0 ++ says (scaleB x.metric x.scale) 4 0 ++ says (capB x.kind x.cap) 5 0 ++ says (fleetB x.kind x.fleet) 6 0
def nodeF (x : Ins) (i : Nat) : List (Nat × Nat) :=
  says (coordB x.metric (at' x i)) 9 i ++ says (demandB x.kind i (at' x i)) 10 i ++ says (windowB x.kind (at' x i)) 11 i ++ says (serviceB x.kind (at' x i)) 12 i ++ says (mateB x i) 13 i
def nodesF (x : Ins) : Nat → List (Nat × Nat)
  | 0 => []
  | i + 1 => nodesF x i ++ nodeF x i
/-- canon.Check. -/
def checkL (N : ByteArray → Bool) (x : Ins) : List (Nat × Nat) :=
  heads N x ++ if x.nodes.length < 1 ∨ 400 < x.nodes.length then [(7, 0)] else says (matrixB x) 8 0 ++ nodesF x x.nodes.length
def wellB (N : ByteArray → Bool) (x : Ins) : Bool := decide (checkL N x = [])

/-! The normal form. -/
def wholeNd (d : Nd) : Bool := decide (d.x.tmod 10 = 0) && decide (d.y.tmod 10 = 0)
def whole (l : List Nd) : Bool := l.all wholeNd
def shrinkNd (d : Nd) : Nd := { d with x := d.x.tdiv 10, y := d.y.tdiv 10 }
def shrink (l : List Nd) : List Nd := l.map shrinkNd
def normN : Nat → List Nd → Nat × List Nd
  | 0, l => (0, l)
  | s + 1, l => if whole l = true then normN s (shrink l) else (s + 1, l)
def norm (x : Ins) : Ins := if 1 ≤ x.scale ∧ x.scale ≤ 6 then { x with scale := ((normN x.scale.toNat x.nodes).1 : Int), nodes := (normN x.scale.toNat x.nodes).2 } else x
theorem shrink_length (l : List Nd) : (shrink l).length = l.length := by simp [shrink]
theorem normN_length : ∀ (s : Nat) (l : List Nd), (normN s l).2.length = l.length
  | 0, _ => rfl
  | s + 1, l => by
    rw [normN]; split
    · rw [normN_length s, shrink_length]
    · rfl
theorem normN_le : ∀ (s : Nat) (l : List Nd), (normN s l).1 ≤ s
  | 0, _ => Nat.le_refl _
  | s + 1, l => by
    rw [normN]; split
    · exact Nat.le_succ_of_le (normN_le s _)
    · exact Nat.le_refl _
theorem normN_own : ∀ (s : Nat) (l : List Nd), normN (normN s l).1 (normN s l).2 = normN s l
  | 0, _ => rfl
  | s + 1, l => by
    by_cases h : whole l = true
    · simp only [normN, h, if_true]; exact normN_own s _
    · have e : normN (s + 1) l = (s + 1, l) := by rw [normN, if_neg h]
      rw [e]; exact e
theorem norm_length (x : Ins) : (norm x).nodes.length = x.nodes.length := by
  unfold norm; split
  · exact normN_length _ _
  · rfl
theorem norm_scale (x : Ins) : (norm x).scale ≤ x.scale := by
  unfold norm; split
  · rename_i h
    have := normN_le x.scale.toNat x.nodes
    show ((normN x.scale.toNat x.nodes).1 : Int) ≤ x.scale
    omega
  · exact Int.le_refl _
theorem norm_own (x : Ins) : norm (norm x) = norm x := by
  by_cases h : 1 ≤ x.scale ∧ x.scale ≤ 6
  · have e : norm x = { x with scale := ((normN x.scale.toNat x.nodes).1 : Int), nodes := (normN x.scale.toNat x.nodes).2 } := by unfold norm; rw [if_pos h]
    rw [e]
    generalize hs : x.scale.toNat = s
    have ho := normN_own s x.nodes
    generalize hp : normN s x.nodes = p at ho
    obtain ⟨s', l'⟩ := p
    simp only at ho ⊢
    unfold norm
    by_cases h2 : 1 ≤ (s' : Int) ∧ (s' : Int) ≤ 6
    · rw [if_pos h2]
      simp only [Int.toNat_natCast, ho]
    · rw [if_neg h2]
  · have e : norm x = x := by unfold norm; rw [if_neg h]
    rw [e, e]
/-- What the normal form of a node keeps: all but its point, and that is no further. -/
structure Shr (d d' : Nd) : Prop where
  x : d'.x.natAbs ≤ d.x.natAbs
  y : d'.y.natAbs ≤ d.y.natAbs
  rest : d'.demand = d.demand ∧ d'.ready = d.ready ∧ d'.due = d.due ∧ d'.service = d.service ∧ d'.mate = d.mate
theorem Shr.refl (d : Nd) : Shr d d := ⟨Nat.le_refl _, Nat.le_refl _, rfl, rfl, rfl, rfl, rfl⟩
theorem Shr.trans {a b c : Nd} (h : Shr a b) (k : Shr b c) : Shr a c :=
  ⟨Nat.le_trans k.x h.x, Nat.le_trans k.y h.y, k.rest.1.trans h.rest.1, k.rest.2.1.trans h.rest.2.1, k.rest.2.2.1.trans h.rest.2.2.1, k.rest.2.2.2.1.trans h.rest.2.2.2.1, k.rest.2.2.2.2.trans h.rest.2.2.2.2⟩
theorem tdiv_le (a : Int) : (a.tdiv 10).natAbs ≤ a.natAbs := by
  rw [Int.natAbs_tdiv]; exact Nat.div_le_self _ _
theorem shr_shrink (d : Nd) : Shr d (shrinkNd d) := ⟨tdiv_le _, tdiv_le _, rfl, rfl, rfl, rfl, rfl⟩
theorem normN_shr : ∀ (s : Nat) (l : List Nd) (i : Nat), Shr (l.getD i zeroNd) ((normN s l).2.getD i zeroNd)
  | 0, _, _ => Shr.refl _
  | s + 1, l, i => by
    rw [normN]; split
    · refine Shr.trans ?_ (normN_shr s (shrink l) i)
      by_cases hi : i < l.length
      · have e1 : l.getD i zeroNd = l[i] := by simp [List.getD, hi]
        have e2 : (shrink l).getD i zeroNd = shrinkNd l[i] := by simp [shrink, List.getD, hi]
        rw [e1, e2]; exact shr_shrink _
      · have e1 : l.getD i zeroNd = zeroNd := by simp [List.getD, List.getElem?_eq_none (show l.length ≤ i by omega)]
        have e2 : (shrink l).getD i zeroNd = zeroNd := by simp [shrink, List.getD, List.getElem?_eq_none (show l.length ≤ i by omega)]
        rw [e1, e2]; exact Shr.refl _
    · exact Shr.refl _
theorem norm_shr (x : Ins) (i : Nat) : Shr (at' x i) (at' (norm x) i) := by
  unfold at' norm; split
  · exact normN_shr _ _ _
  · exact Shr.refl _
theorem norm_keeps (x : Ins) : (norm x).name = x.name ∧ (norm x).kind = x.kind ∧ (norm x).metric = x.metric ∧ (norm x).cap = x.cap ∧ (norm x).fleet = x.fleet ∧ (norm x).matrix = x.matrix := by
  unfold norm; split <;> exact ⟨rfl, rfl, rfl, rfl, rfl, rfl⟩
/-! No fault comes. -/
theorem says_sub {a b : Bool} {f n : Nat} (h : a = true → b = true) : (says b f n).Sublist (says a f n) := by
  unfold says
  cases ha : a with
  | true => rw [h ha]; simp
  | false => cases b <;> simp
theorem coord_norm {metric : Int} {d d' : Nd} (h : Shr d d') (hc : coordB metric d = true) : coordB metric d' = true := by
  have hx := h.x
  have hy := h.y
  simp only [coordB, signed, Bool.and_eq_true, Bool.or_eq_true, decide_eq_true_eq] at hc ⊢
  refine ⟨⟨⟨by omega, by omega⟩, by omega, by omega⟩, ?_⟩
  rcases hc.2 with hm | ⟨h0, h1⟩
  · exact .inl hm
  · exact .inr ⟨by omega, by omega⟩
theorem mate_norm (x : Ins) (i : Nat) : mateB (norm x) i = mateB x i := by
  have h1 := norm_keeps x
  have hi := (norm_shr x i).rest
  unfold mateB
  rw [h1.2.1, hi.2.2.2.2, hi.1, norm_length, (norm_shr x (at' x i).mate.toNat).rest.2.2.2.2, (norm_shr x (at' x i).mate.toNat).rest.1]
theorem matrix_norm (x : Ins) : matrixB (norm x) = matrixB x := by
  have h1 := norm_keeps x
  unfold matrixB
  rw [h1.2.2.1, h1.2.2.2.2.2, norm_length]
theorem scale_norm (x : Ins) (h : scaleB x.metric x.scale = true) : scaleB x.metric (norm x).scale = true := by
  by_cases hs : 1 ≤ x.scale ∧ x.scale ≤ 6
  · have hl := norm_scale x
    have h0 : 0 ≤ (norm x).scale := by unfold norm; rw [if_pos hs]; exact Int.natCast_nonneg _
    simp only [scaleB, Bool.and_eq_true, decide_eq_true_eq, Bool.not_eq_true', Bool.and_eq_false_iff, decide_eq_false_iff_not] at h ⊢
    refine ⟨⟨h0, by omega⟩, ?_⟩
    rcases h.2 with hm | hm
    · exact .inl hm
    · omega
  · have e : norm x = x := by unfold norm; rw [if_neg hs]
    rw [e]; exact h
theorem nodeF_norm (x : Ins) (i : Nat) : (nodeF (norm x) i).Sublist (nodeF x i) := by
  have h1 := norm_keeps x
  have hi := norm_shr x i
  unfold nodeF
  rw [mate_norm, h1.2.1, h1.2.2.1]
  have e1 : demandB x.kind i (at' (norm x) i) = demandB x.kind i (at' x i) := by unfold demandB; rw [hi.rest.1]
  have e2 : windowB x.kind (at' (norm x) i) = windowB x.kind (at' x i) := by unfold windowB; rw [hi.rest.2.1, hi.rest.2.2.1]
  have e3 : serviceB x.kind (at' (norm x) i) = serviceB x.kind (at' x i) := by unfold serviceB; rw [hi.rest.2.2.2.1]
  rw [e1, e2, e3]
  exact ((((says_sub (coord_norm hi)).append (List.Sublist.refl _)).append (List.Sublist.refl _)).append (List.Sublist.refl _)).append (List.Sublist.refl _)
theorem nodesF_norm (x : Ins) (n : Nat) : (nodesF (norm x) n).Sublist (nodesF x n) := by
  induction n with
  | zero => exact List.Sublist.refl _
  | succ n ih => exact ih.append (nodeF_norm x n)
/-- A normal form has no fault that the instance has not. -/
theorem check_norm (N : ByteArray → Bool) (x : Ins) : (checkL N (norm x)).Sublist (checkL N x) := by
  have h1 := norm_keeps x
  unfold checkL heads
  rw [h1.1, h1.2.1, h1.2.2.1, h1.2.2.2.1, h1.2.2.2.2.1, norm_length, matrix_norm]
  refine List.Sublist.append ?_ ?_
  · exact (((List.Sublist.refl _).append (says_sub (scale_norm x))).append (List.Sublist.refl _)).append (List.Sublist.refl _)
  · split
    · exact List.Sublist.refl _
    · exact (List.Sublist.refl _).append (nodesF_norm x _)
theorem well_norm (N : ByteArray → Bool) (x : Ins) (h : wellB N x = true) : wellB N (norm x) = true := by
  unfold wellB at h ⊢
  have h := of_decide_eq_true h
  have := check_norm N x
  rw [h] at this
  exact decide_eq_true (List.sublist_nil.1 this)
/-! Ten times as far. -/
def tenNd (d : Nd) : Nd := { d with x := 10 * d.x, y := 10 * d.y }
theorem whole_ten (l : List Nd) : whole (l.map tenNd) = true := by
  simp [whole, tenNd, wholeNd]
theorem shrink_ten (l : List Nd) : shrink (l.map tenNd) = l := by
  unfold shrink
  rw [List.map_map]
  have : (shrinkNd ∘ tenNd) = id := funext fun d => by
    simp [shrinkNd, tenNd]
  rw [this, List.map_id]
theorem norm_ten {x : Ins} (h0 : 0 ≤ x.scale) (h6 : x.scale < 6) : norm { x with scale := x.scale + 1, nodes := x.nodes.map tenNd } = norm x := by
  have e : norm { x with scale := x.scale + 1, nodes := x.nodes.map tenNd } = { x with scale := ((normN (x.scale + 1).toNat (x.nodes.map tenNd)).1 : Int), nodes := (normN (x.scale + 1).toNat (x.nodes.map tenNd)).2 } := by
    unfold norm; rw [if_pos (show 1 ≤ x.scale + 1 ∧ x.scale + 1 ≤ 6 from ⟨by omega, by omega⟩)]
  rw [e, show (x.scale + 1).toNat = x.scale.toNat + 1 by omega, normN, if_pos (whole_ten _), shrink_ten]
  unfold norm
  by_cases h1 : 1 ≤ x.scale
  · rw [if_pos ⟨h1, by omega⟩]
  · rw [if_neg (by omega), show x.scale.toNat = 0 by omega]
    have : x.scale = 0 := by omega
    cases x
    simp_all [normN]
#print axioms check_norm
#print axioms norm_own
#print axioms norm_ten
end Go.Canon
/- Plain facts on instances: the order of faults, and what is spoilt; no program. -/
namespace Go.Canon
/-! The order of faults. -/
def key (p : Nat × Nat) : Nat := if p.1 ≤ 8 then p.1 else 20 + 20 * p.2 + p.1
def fullN : Nat → List (Nat × Nat)
  | 0 => []
  | i + 1 => fullN i ++ [(9, i), (10, i), (11, i), (12, i), (13, i)]
def fullH : List (Nat × Nat) := [(1, 0), (2, 0), (3, 0), (4, 0), (5, 0), (6, 0)]
theorem says_in (b : Bool) (f n : Nat) : (says b f n).Sublist [(f, n)] := by unfold says; cases b <;> simp
theorem heads_in (N : ByteArray → Bool) (x : Ins) : (heads N x).Sublist fullH :=
  (((((says_in _ 1 0).append (says_in _ 2 0)).append (says_in _ 3 0)).append (says_in _ 4 0)).append (says_in _ 5 0)).append (says_in _ 6 0)
theorem nodeF_in (x : Ins) (i : Nat) : (nodeF x i).Sublist [(9, i), (10, i), (11, i), (12, i), (13, i)] :=
  ((((says_in _ 9 i).append (says_in _ 10 i)).append (says_in _ 11 i)).append (says_in _ 12 i)).append (says_in _ 13 i)
theorem nodesF_in (x : Ins) (n : Nat) : (nodesF x n).Sublist (fullN n) := by
  induction n with
  | zero => exact List.Sublist.refl _
  | succ n ih => exact ih.append (nodeF_in x n)
theorem fullN_mem {n : Nat} {p : Nat × Nat} (h : p ∈ fullN n) : 9 ≤ p.1 ∧ p.1 ≤ 13 ∧ p.2 < n := by
  induction n with
  | zero => cases h
  | succ n ih =>
    rw [fullN, List.mem_append] at h
    rcases h with h | h
    · have := ih h; omega
    · simp only [List.mem_cons, List.not_mem_nil, or_false] at h
      rcases h with rfl | rfl | rfl | rfl | rfl <;> simp
theorem fullN_sorted (n : Nat) : (fullN n).Pairwise fun p f => key p < key f := by
  induction n with
  | zero => exact List.Pairwise.nil
  | succ n ih =>
    rw [fullN, List.pairwise_append]
    refine ⟨ih, by simp [key], ?_⟩
    intro p hp f hf
    have h1 := fullN_mem hp
    simp only [List.mem_cons, List.not_mem_nil, or_false] at hf
    rcases hf with rfl | rfl | rfl | rfl | rfl <;> simp only [key] <;> rw [if_neg (by omega), if_neg (by omega)] <;> omega
theorem check_in (N : ByteArray → Bool) (x : Ins) : (checkL N x).Sublist (fullH ++ [(7, 0)] ++ [(8, 0)] ++ fullN x.nodes.length) := by
  unfold checkL
  rw [List.append_assoc, List.append_assoc]
  refine (heads_in N x).append ?_
  split
  · exact List.sublist_append_left [(7, 0)] _
  · exact ((says_in _ 8 0).append (nodesF_in x _)).trans (List.sublist_append_right [(7, 0)] _)
theorem full_sorted (n : Nat) : (fullH ++ [(7, 0)] ++ [(8, 0)] ++ fullN n).Pairwise fun p f => key p < key f := by
  rw [List.pairwise_append]
  refine ⟨by simp [fullH, key], fullN_sorted n, ?_⟩
  intro p hp f hf
  have h1 := fullN_mem hf
  have h2 : p.1 ≤ 8 := by
    simp only [fullH, List.cons_append, List.nil_append, List.mem_cons, List.not_mem_nil, or_false] at hp
    rcases hp with rfl | rfl | rfl | rfl | rfl | rfl | rfl | rfl <;> simp
  simp only [key]
  rw [if_pos h2, if_neg (by omega)]
  omega
theorem check_sorted (N : ByteArray → Bool) (x : Ins) : (checkL N x).Pairwise fun p f => key p < key f := (full_sorted _).sublist (check_in N x)
theorem check_mem {N : ByteArray → Bool} {x : Ins} {p : Nat × Nat} (h : p ∈ checkL N x) : (1 ≤ p.1 ∧ p.1 ≤ 8 ∧ p.2 = 0) ∨ (9 ≤ p.1 ∧ p.1 ≤ 13 ∧ p.2 < x.nodes.length) := by
  have h := (check_in N x).subset h
  rw [List.mem_append] at h
  rcases h with h | h
  · simp only [fullH, List.cons_append, List.nil_append, List.mem_cons, List.not_mem_nil, or_false] at h
    rcases h with rfl | rfl | rfl | rfl | rfl | rfl | rfl | rfl <;> simp
  · exact .inr (fullN_mem h)
theorem check_most (N : ByteArray → Bool) (x : Ins) (n : Nat) (h : x.nodes.length ≤ n) : (checkL N x).length ≤ 8 + 5 * n := by
  have h1 := (check_in N x).length_le
  have h2 : ∀ k, (fullN k).length = 5 * k := by
    intro k
    induction k with
    | zero => rfl
    | succ k ih => rw [fullN, List.length_append, ih]; simp; omega
  simp only [List.length_append, h2, fullH, List.length_cons, List.length_nil] at h1
  omega
/-- What two faults that stand next to one another are. -/
theorem check_next {N : ByteArray → Bool} {x : Ins} {i : Nat} {p f : Nat × Nat} (hp : (checkL N x)[i]? = some p) (hf : (checkL N x)[i + 1]? = some f) : key p < key f := by
  obtain ⟨h1, e1⟩ := List.getElem?_eq_some_iff.1 hp
  obtain ⟨h2, e2⟩ := List.getElem?_eq_some_iff.1 hf
  have := List.pairwise_iff_getElem.1 (check_sorted N x) i (i + 1) h1 h2 (by omega)
  rwa [e1, e2] at this
/-! What is well-formed, and spoilt. -/
theorem says_nil {b : Bool} {f n : Nat} : says b f n = [] ↔ b = true := by unfold says; cases b <;> simp
theorem nodesF_nil {x : Ins} {n : Nat} : nodesF x n = [] ↔ ∀ i, i < n → nodeF x i = [] := by
  induction n with
  | zero => simp [nodesF]
  | succ n ih =>
    rw [nodesF, List.append_eq_nil_iff, ih]
    constructor
    · rintro ⟨h1, h2⟩ i hi
      rcases Nat.lt_or_ge i n with h | h
      · exact h1 i h
      · rw [show i = n by omega]; exact h2
    · exact fun h => ⟨fun i hi => h i (by omega), h n (by omega)⟩
structure Well (N : ByteArray → Bool) (x : Ins) : Prop where
  name : N x.name = true
  kind : kindB x.kind = true
  metric : metricB x.metric = true
  scale : scaleB x.metric x.scale = true
  cap : capB x.kind x.cap = true
  fleet : fleetB x.kind x.fleet = true
  lo : 1 ≤ x.nodes.length
  hi : x.nodes.length ≤ 400
  matrix : matrixB x = true
  nodes : ∀ i, i < x.nodes.length → coordB x.metric (at' x i) = true ∧ demandB x.kind i (at' x i) = true ∧ windowB x.kind (at' x i) = true ∧ serviceB x.kind (at' x i) = true ∧ mateB x i = true
theorem nodeF_nil {x : Ins} {i : Nat} : nodeF x i = [] ↔ coordB x.metric (at' x i) = true ∧ demandB x.kind i (at' x i) = true ∧ windowB x.kind (at' x i) = true ∧ serviceB x.kind (at' x i) = true ∧ mateB x i = true := by
  unfold nodeF
  simp only [List.append_eq_nil_iff, says_nil, and_assoc]
theorem well_iff {N : ByteArray → Bool} {x : Ins} : wellB N x = true ↔ Well N x := by
  unfold wellB
  rw [decide_eq_true_iff]
  unfold checkL heads
  simp only [List.append_eq_nil_iff, says_nil]
  constructor
  · rintro ⟨⟨⟨⟨⟨⟨h1, h2⟩, h3⟩, h4⟩, h5⟩, h6⟩, h⟩
    by_cases hn : x.nodes.length < 1 ∨ 400 < x.nodes.length
    · rw [if_pos hn] at h; cases h
    · rw [if_neg hn, List.append_eq_nil_iff, says_nil, nodesF_nil] at h
      exact ⟨h1, h2, h3, h4, h5, h6, by omega, by omega, h.1, fun i hi => nodeF_nil.1 (h.2 i hi)⟩
  · intro h
    refine ⟨⟨⟨⟨⟨⟨h.name, h.kind⟩, h.metric⟩, h.scale⟩, h.cap⟩, h.fleet⟩, ?_⟩
    have := h.lo
    have := h.hi
    rw [if_neg (by omega), List.append_eq_nil_iff, says_nil, nodesF_nil]
    exact ⟨h.matrix, fun i hi => nodeF_nil.2 (h.nodes i hi)⟩
theorem Well.tail {N : ByteArray → Bool} {x : Ins} (h : Well N x) : (if x.nodes.length < 1 ∨ 400 < x.nodes.length then [(7, 0)] else says (matrixB x) 8 0 ++ nodesF x x.nodes.length) = [] := by
  have h1 := h.lo
  have h2 := h.hi
  rw [if_neg (by omega), List.append_eq_nil_iff, says_nil, nodesF_nil]
  exact ⟨h.matrix, fun i hi => nodeF_nil.2 (h.nodes i hi)⟩
theorem says_true (f n : Nat) : says true f n = [] := rfl
theorem says_false (f n : Nat) : says false f n = [(f, n)] := rfl
theorem nodesF_same {x y : Ins} (h : ∀ i, nodeF y i = nodeF x i) (n : Nat) : nodesF y n = nodesF x n := by
  induction n with
  | zero => rfl
  | succ n ih => rw [nodesF, nodesF, ih, h]
theorem spoil_name {N : ByteArray → Bool} {x : Ins} {e : ByteArray} (h : Well N x) (he : N e = false) : checkL N { x with name := e } = [(1, 0)] := by
  have ht := h.tail
  unfold checkL heads
  simp only [he, h.kind, h.metric, h.scale, h.cap, h.fleet, says_true, says_false, List.append_nil, List.cons_append, List.nil_append]
  rw [show nodesF { x with name := e } x.nodes.length = nodesF x x.nodes.length from nodesF_same (x := x) (y := { x with name := e }) (fun i => rfl) _, show matrixB { x with name := e } = matrixB x from rfl, ht]
theorem spoil_scale {N : ByteArray → Bool} {x : Ins} (h : Well N x) : checkL N { x with scale := 7 } = [(4, 0)] := by
  have ht := h.tail
  unfold checkL heads
  have hs : scaleB x.metric 7 = false := by simp [scaleB]
  simp only [hs, h.name, h.kind, h.metric, h.cap, h.fleet, says_true, says_false, List.append_nil, List.cons_append, List.nil_append]
  rw [show nodesF { x with scale := 7 } x.nodes.length = nodesF x x.nodes.length from nodesF_same (x := x) (y := { x with scale := 7 }) (fun i => rfl) _, show matrixB { x with scale := 7 } = matrixB x from rfl, ht]
theorem spoil_cap {N : ByteArray → Bool} {x : Ins} (h : Well N x) : checkL N { x with cap := -1 } = [(5, 0)] := by
  have ht := h.tail
  unfold checkL heads
  have hs : capB x.kind (-1) = false := by unfold capB; split <;> simp
  simp only [hs, h.name, h.kind, h.metric, h.scale, h.fleet, says_true, says_false, List.append_nil, List.cons_append, List.nil_append]
  rw [show nodesF { x with cap := -1 } x.nodes.length = nodesF x x.nodes.length from nodesF_same (x := x) (y := { x with cap := -1 }) (fun i => rfl) _, show matrixB { x with cap := -1 } = matrixB x from rfl, ht]
theorem spoil_fleet {N : ByteArray → Bool} {x : Ins} (h : Well N x) : checkL N { x with fleet := 401 } = [(6, 0)] := by
  have ht := h.tail
  unfold checkL heads
  have hs : fleetB x.kind 401 = false := by unfold fleetB; split <;> simp
  simp only [hs, h.name, h.kind, h.metric, h.scale, h.cap, says_true, says_false, List.append_nil, List.cons_append, List.nil_append]
  rw [show nodesF { x with fleet := 401 } x.nodes.length = nodesF x x.nodes.length from nodesF_same (x := x) (y := { x with fleet := 401 }) (fun i => rfl) _, show matrixB { x with fleet := 401 } = matrixB x from rfl, ht]
/-! One node spoilt. -/
theorem at_set {x : Ins} {i : Nat} (d : Nd) (hi : i < x.nodes.length) (j : Nat) : at' { x with nodes := x.nodes.set i d } j = if j = i then d else at' x j := by
  unfold at' List.getD
  simp only [List.getElem?_set]
  by_cases h : j = i
  · subst h; simp [hi]
  · rw [if_neg (fun e => h e.symm), if_neg h]
theorem mate_set {x : Ins} {i : Nat} {d : Nd} (hi : i < x.nodes.length) (h1 : d.demand = (at' x i).demand) (h2 : d.mate = (at' x i).mate) (j : Nat) : mateB { x with nodes := x.nodes.set i d } j = mateB x j := by
  have k1 : ∀ j, (at' { x with nodes := x.nodes.set i d } j).demand = (at' x j).demand := fun j => by
    rw [at_set d hi]; split
    · rename_i e; rw [e]; exact h1
    · rfl
  have k2 : ∀ j, (at' { x with nodes := x.nodes.set i d } j).mate = (at' x j).mate := fun j => by
    rw [at_set d hi]; split
    · rename_i e; rw [e]; exact h2
    · rfl
  unfold mateB
  simp only [k1, k2, List.length_set]
theorem nodesF_set {x : Ins} {i f : Nat} {d : Nd} (hn : ∀ j, j < x.nodes.length → nodeF x j = []) (hj : ∀ j, j ≠ i → nodeF { x with nodes := x.nodes.set i d } j = nodeF x j) (hf : nodeF { x with nodes := x.nodes.set i d } i = [(f, i)]) : ∀ n, n ≤ x.nodes.length → nodesF { x with nodes := x.nodes.set i d } n = if i < n then [(f, i)] else [] := by
  intro n
  induction n with
  | zero => intro _; rfl
  | succ n ih =>
    intro hle
    rw [nodesF, ih (by omega)]
    by_cases h : n = i
    · subst h
      rw [hf, if_neg (Nat.lt_irrefl _), if_pos (Nat.lt_succ_self _)]; rfl
    · rw [hj n h, hn n (by omega), List.append_nil]
      by_cases h2 : i < n
      · rw [if_pos h2, if_pos (by omega)]
      · rw [if_neg h2, if_neg (by omega)]
theorem spoil_node {N : ByteArray → Bool} {x : Ins} {i f : Nat} {d : Nd} (h : Well N x) (hi : i < x.nodes.length) (h1 : d.demand = (at' x i).demand) (h2 : d.mate = (at' x i).mate) (hf : nodeF { x with nodes := x.nodes.set i d } i = [(f, i)]) : checkL N { x with nodes := x.nodes.set i d } = [(f, i)] := by
  have hm := h.matrix
  have hlo := h.lo
  have hhi := h.hi
  have hm2 : matrixB { x with nodes := x.nodes.set i d } = true := by
    unfold matrixB at hm ⊢
    simp only [List.length_set]
    exact hm
  have hns := nodesF_set (d := d) (fun j hj => nodeF_nil.2 (h.nodes j hj)) (fun j hj => by
    unfold nodeF
    simp only [at_set d hi, if_neg hj, mate_set hi h1 h2]) hf x.nodes.length (Nat.le_refl _)
  unfold checkL heads
  simp only [h.name, h.kind, h.metric, h.scale, h.cap, h.fleet, says_true, List.append_nil, List.nil_append, List.length_set]
  rw [if_neg (by omega), hm2, hns, if_pos hi]
  rfl
/-- A node too far away; one that can't be served. -/
def farNd (d : Nd) : Nd := ⟨100000001, d.y, d.demand, d.ready, d.due, d.service, d.mate⟩
def slowNd (d : Nd) : Nd := ⟨d.x, d.y, d.demand, d.ready, d.due, -1, d.mate⟩
theorem spoil_coord {N : ByteArray → Bool} {x : Ins} {i : Nat} (h : Well N x) (hi : i < x.nodes.length) : checkL N { x with nodes := x.nodes.set i (farNd (at' x i)) } = [(9, i)] := by
  refine spoil_node h hi rfl rfl ?_
  obtain ⟨_, k2, k3, k4, k5⟩ := h.nodes i hi
  unfold nodeF
  rw [mate_set (d := farNd (at' x i)) hi rfl rfl, at_set _ hi, if_pos rfl, k5]
  have e1 : coordB x.metric (farNd (at' x i)) = false := by simp [coordB, signed, farNd]
  have e2 : demandB x.kind i (farNd (at' x i)) = true := k2
  have e3 : windowB x.kind (farNd (at' x i)) = true := k3
  have e4 : serviceB x.kind (farNd (at' x i)) = true := k4
  simp only [e1, e2, e3, e4, says_true, says_false, List.append_nil]
theorem spoil_service {N : ByteArray → Bool} {x : Ins} {i : Nat} (h : Well N x) (hi : i < x.nodes.length) : checkL N { x with nodes := x.nodes.set i (slowNd (at' x i)) } = [(12, i)] := by
  refine spoil_node h hi rfl rfl ?_
  obtain ⟨k1, k2, k3, _, k5⟩ := h.nodes i hi
  unfold nodeF
  rw [mate_set (d := slowNd (at' x i)) hi rfl rfl, at_set _ hi, if_pos rfl, k5]
  have e1 : coordB x.metric (slowNd (at' x i)) = true := k1
  have e2 : demandB x.kind i (slowNd (at' x i)) = true := k2
  have e3 : windowB x.kind (slowNd (at' x i)) = true := k3
  have e4 : serviceB x.kind (slowNd (at' x i)) = false := by unfold serviceB number slowNd; split <;> simp
  simp only [e1, e2, e3, e4, says_true, says_false, List.append_nil, List.nil_append]
#print axioms spoil_coord
#print axioms spoil_service
#print axioms spoil_name
#print axioms check_next
#print axioms well_iff
end Go.Canon
/- Slices of nodes and of faults, and instances as values: what they hold; the small functions of the document's own answers: number, signed. Conditions: none. -/
namespace Go.Proofs
open Go.RowKit Go.Shelf Go.Canon
attribute [local go_sem] Oper.semAt_some

theorem cret_is {a b : Bool} (h : a = b) : Ending.returned (.bool a) = .returned (.bool b) := by rw [h]
/-- The seven cells of each node, from an address on. -/
structure NdAt (W : World) (b o : Nat) (d : Nd) : Prop where
  x : W.cell? ⟨b, o, none⟩ = some (.int .i64 d.x)
  y : W.cell? ⟨b, o + 1, none⟩ = some (.int .i64 d.y)
  demand : W.cell? ⟨b, o + 2, none⟩ = some (.int .i64 d.demand)
  ready : W.cell? ⟨b, o + 3, none⟩ = some (.int .i64 d.ready)
  due : W.cell? ⟨b, o + 4, none⟩ = some (.int .i64 d.due)
  service : W.cell? ⟨b, o + 5, none⟩ = some (.int .i64 d.service)
  mate : W.cell? ⟨b, o + 6, none⟩ = some (.int .i64 d.mate)
theorem NdAt.below {B b o : Nat} {W W' : World} {d : Nd} (h : NdAt W b o d) (hb : Below B W W') (hlt : b < B) : NdAt W' b o d :=
  ⟨(hb.cell (p := ⟨b, o, none⟩) hlt).trans h.x, (hb.cell (p := ⟨b, o + 1, none⟩) hlt).trans h.y, (hb.cell (p := ⟨b, o + 2, none⟩) hlt).trans h.demand, (hb.cell (p := ⟨b, o + 3, none⟩) hlt).trans h.ready, (hb.cell (p := ⟨b, o + 4, none⟩) hlt).trans h.due, (hb.cell (p := ⟨b, o + 5, none⟩) hlt).trans h.service, (hb.cell (p := ⟨b, o + 6, none⟩) hlt).trans h.mate⟩
def NodesAt (W : World) (b off : Nat) (l : List Nd) : Prop := b < W.heap.size ∧ ∀ i d, l[i]? = some d → NdAt W b (off + i * 7) d
/-- A slice that reads as these nodes. -/
def HasNodes (W : World) (v : Value) (l : List Nd) : Prop := (l = [] ∧ ∃ ao cap, v = .slice ao 0 cap) ∨ ∃ b off cap, v = .slice (some ⟨b, off, none⟩) l.length cap ∧ l.length ≤ cap ∧ cap ≤ maxLen ∧ NodesAt W b off l
theorem NodesAt.below {B b off : Nat} {W W' : World} {l : List Nd} (h : NodesAt W b off l) (hb : Below B W W') (hlt : b < B) : NodesAt W' b off l :=
  ⟨Nat.lt_of_lt_of_le h.1 hb.size, fun i d hi => (h.2 i d hi).below hb hlt⟩
theorem NodesAt.next {b off : Nat} {W W' : World} {l : List Nd} (h : NodesAt W b off l) (hb : Below W.heap.size W W') : NodesAt W' b off l := h.below hb h.1
theorem HasNodes.next {W W' : World} {v : Value} {l : List Nd} (h : HasNodes W v l) (hb : Below W.heap.size W W') : HasNodes W' v l := by
  rcases h with h | ⟨b, off, cap, h1, h2, h3, h4⟩
  · exact .inl h
  · exact .inr ⟨b, off, cap, h1, h2, h3, h4.next hb⟩
theorem HasNodes.dat {W : World} {v : Value} {l : List Nd} (h : HasNodes W v l) : ∃ ao cap, v = .slice ao l.length cap ∧ (l = [] ∨ ∃ b off, ao = some ⟨b, off, none⟩ ∧ NodesAt W b off l) := by
  rcases h with ⟨rfl, ao, cap, rfl⟩ | ⟨b, off, cap, rfl, _, _, hd⟩
  · exact ⟨ao, cap, rfl, .inl rfl⟩
  · exact ⟨_, cap, rfl, .inr ⟨b, off, rfl, hd⟩⟩
/-- The cells of a list's numbers, from an address on. -/
def NumsAt (W : World) (b off : Nat) (l : List Int) : Prop := b < W.heap.size ∧ ∀ i x, l[i]? = some x → W.cell? ⟨b, off + i, none⟩ = some (.int .i64 x)
/-- A slice that reads as these numbers. -/
def HasNums (W : World) (v : Value) (l : List Int) : Prop := (l = [] ∧ ∃ ao cap, v = .slice ao 0 cap) ∨ ∃ b off cap, v = .slice (some ⟨b, off, none⟩) l.length cap ∧ l.length ≤ cap ∧ cap ≤ maxLen ∧ NumsAt W b off l
theorem NumsAt.next {b off : Nat} {W W' : World} {l : List Int} (h : NumsAt W b off l) (hb : Below W.heap.size W W') : NumsAt W' b off l :=
  ⟨Nat.lt_of_lt_of_le h.1 hb.size, fun i x hi => (hb.cell (p := ⟨b, off + i, none⟩) h.1).trans (h.2 i x hi)⟩
theorem HasNums.next {W W' : World} {v : Value} {l : List Int} (h : HasNums W v l) (hb : Below W.heap.size W W') : HasNums W' v l := by
  rcases h with h | ⟨b, off, cap, h1, h2, h3, h4⟩
  · exact .inl h
  · exact .inr ⟨b, off, cap, h1, h2, h3, h4.next hb⟩
theorem HasNums.dat {W : World} {v : Value} {l : List Int} (h : HasNums W v l) : ∃ ao cap, v = .slice ao l.length cap ∧ (l = [] ∨ ∃ b off, ao = some ⟨b, off, none⟩ ∧ NumsAt W b off l) := by
  rcases h with ⟨rfl, ao, cap, rfl⟩ | ⟨b, off, cap, rfl, _, _, hd⟩
  · exact ⟨ao, cap, rfl, .inl rfl⟩
  · exact ⟨_, cap, rfl, .inr ⟨b, off, rfl, hd⟩⟩
/-- An instance as a value. -/
def insV (x : Ins) (vn vm : Value) : Value := .agg #[.string x.name, .int .i64 x.kind, .int .i64 x.metric, .int .i64 x.scale, .int .i64 x.cap, .int .i64 x.fleet, vn, vm]
/-- A value that reads as an instance. -/
structure HasIns (W : World) (vn vm : Value) (x : Ins) : Prop where
  nodes : HasNodes W vn x.nodes
  matrix : HasNums W vm x.matrix
theorem HasIns.next {W W' : World} {vn vm : Value} {x : Ins} (h : HasIns W vn vm x) (hb : Below W.heap.size W W') : HasIns W' vn vm x := ⟨h.nodes.next hb, h.matrix.next hb⟩

theorem Try.rnumber_calls (n : Int) (w : World) :
    Calls Try.prog 62 #[.int .i64 n] w fun e w' => e = .returned (.bool (number n)) ∧ w' = w := by
  by_cases h1 : 0 ≤ n
  · by_cases h2 : n ≤ 100000000
    · go_enter Try.func62, Try.ntmps62
      go_wp2
      go_ret
      exact ⟨cret_is (by simp [number]; omega), rfl⟩
    · go_enter Try.func62, Try.ntmps62
      go_wp2
      go_ret
      exact ⟨cret_is (by simp [number]; omega), rfl⟩
  · go_enter Try.func62, Try.ntmps62
    go_wp2
    go_ret
    exact ⟨cret_is (by simp [number]; omega), rfl⟩
theorem Try.rsigned_calls (n : Int) (w : World) :
    Calls Try.prog 63 #[.int .i64 n] w fun e w' => e = .returned (.bool (signed n)) ∧ w' = w := by
  by_cases h1 : -100000000 ≤ n
  · by_cases h2 : n ≤ 100000000
    · go_enter Try.func63, Try.ntmps63
      go_wp2
      go_ret
      exact ⟨cret_is (by simp [signed]; omega), rfl⟩
    · go_enter Try.func63, Try.ntmps63
      go_wp2
      go_ret
      exact ⟨cret_is (by simp [signed]; omega), rfl⟩
  · go_enter Try.func63, Try.ntmps63
    go_wp2
    go_ret
    exact ⟨cret_is (by simp [signed]; omega), rfl⟩
end Go.Proofs
/- Rows of structs of a call's own: what they read as (faults, nodes). No program's functions. -/
namespace Go.Proofs
open Go.RowKit Go.Shelf Go.Canon
attribute [local go_sem] Oper.semAt_some

/-! Lists of structs, laid out flat. -/
theorem flat_len {α : Type} {f : α → List Value} {s : Nat} (hf : ∀ a, (f a).length = s) (l : List α) : (l.flatMap f).length = l.length * s := by
  induction l with
  | nil => simp
  | cons a l ih => rw [List.flatMap_cons, List.length_append, ih, hf, List.length_cons, Nat.succ_mul]; omega
theorem flat_get {α : Type} {f : α → List Value} {s : Nat} (hf : ∀ a, (f a).length = s) : ∀ {l : List α} {i : Nat} {a : α} {j : Nat}, l[i]? = some a → j < s → (l.flatMap f)[i * s + j]? = (f a)[j]?
  | [], i, a, j, h, _ => by simp at h
  | b :: l, 0, a, j, h, hj => by
    have e : b = a := by simpa using h
    subst e
    rw [List.flatMap_cons, Nat.zero_mul, Nat.zero_add, List.getElem?_append_left (by rw [hf]; exact hj)]
  | b :: l, i + 1, a, j, h, hj => by
    have h' : l[i]? = some a := by simpa using h
    have := flat_get hf h' hj
    rw [List.flatMap_cons, Nat.succ_mul, List.getElem?_append_right (by rw [hf]; omega), hf, ← this]
    congr 1; omega
theorem flat_snoc {α : Type} (f : α → List Value) (l : List α) (a : α) : (l ++ [a]).flatMap f = l.flatMap f ++ f a := by simp [List.flatMap_append]
theorem ctake_get {α : Type} {l : List α} {k : Nat} {a : α} (h : l[k]? = some a) : l.take (k + 1) = l.take k ++ [a] := by rw [List.take_add_one, h]; rfl
/-- What a cell of an own row reads as. -/
theorem owns_flat {α : Type} {W : World} {base s : Nat} {e : TypeId} {v : Value} {f : α → List Value} {l : List α} (hf : ∀ a, (f a).length = s) (h : W.ownsRow base e s v l.length (l.flatMap f)) :
    (l = [] ∧ v = .slice none 0 0) ∨ ∃ g cap, v = .slice (some ⟨g, 0, none⟩) l.length cap ∧ l.length ≤ cap ∧ cap ≤ maxLen ∧ g < W.heap.size ∧ ∀ i a j u, l[i]? = some a → (f a)[j]? = some u → W.cell? ⟨g, 0 + i * s + j, none⟩ = some u := by
  rcases h.2 with ⟨rfl, h0⟩ | ⟨g, cap, cur, rfl, _, hg, hnc, hcm, hcs, htk⟩
  · exact .inl ⟨List.length_eq_zero_iff.1 h0, rfl⟩
  · refine .inr ⟨g, cap, rfl, hnc, hcm, (Array.getElem?_eq_some_iff.1 hg).1, fun i a j u hi hu => ?_⟩
    have hlt : i < l.length := (List.getElem?_eq_some_iff.1 hi).1
    have hj : j < s := by rw [← hf a]; exact (List.getElem?_eq_some_iff.1 hu).1
    have h1 := flat_get hf hi hj
    rw [hu, ← htk, List.getElem?_take, if_pos (by have := Nat.mul_le_mul_right s (show i + 1 ≤ l.length by omega); rw [Nat.succ_mul] at this; omega)] at h1
    unfold World.cell?
    simp only [hg, Nat.zero_add]
    simpa using h1
theorem cowns_empty (w : World) (e : TypeId) (s : Nat) : (w.alloc (.cells #[] e)).ownsRow w.heap.size e s (.slice (some ⟨w.heap.size, 0, none⟩) 0 0) 0 [] :=
  ⟨by simp, .inr ⟨w.heap.size, 0, #[], rfl, Nat.le_refl _, World.alloc_heap_new w _, Nat.le_refl _, Nat.zero_le _, by simp, by simp⟩⟩
theorem cgrown_below {n₀ : Nat} {w wr w1 : World} {tmp : Obj} {v : Value} {e : TypeId} {size k : Nat} {xs : List Value} (hB : Below n₀ w wr) (hn : n₀ ≤ wr.heap.size) (hown : wr.ownsRow n₀ e size v k xs) (hgrow : (wr.alloc tmp).grownBy w1 v.ownBlock) : Below n₀ w w1 := by
  refine (hB.alloc hn tmp).grown hgrow (by simp; omega) ?_
  intro k hk
  rcases hown.2 with ⟨rfl, _⟩ | ⟨g, cap, cur, rfl, hbg, _⟩
  · simp [Value.ownBlock] at hk
  · have : g = k := by simpa [Value.ownBlock] using hk
    omega
/-! Faults. -/
def ftC (p : Nat × Nat) : List Value := [.int .i64 (p.1 : Int), .int .i64 (p.2 : Int)]
def ndC (d : Nd) : List Value := [.int .i64 d.x, .int .i64 d.y, .int .i64 d.demand, .int .i64 d.ready, .int .i64 d.due, .int .i64 d.service, .int .i64 d.mate]
def FtAt (W : World) (b off : Nat) (l : List (Nat × Nat)) : Prop := b < W.heap.size ∧ ∀ i p, l[i]? = some p → W.cell? ⟨b, off + i * 2, none⟩ = some (.int .i64 (p.1 : Int)) ∧ W.cell? ⟨b, off + i * 2 + 1, none⟩ = some (.int .i64 (p.2 : Int))
/-- A slice that reads as these faults. -/
def HasFts (W : World) (v : Value) (l : List (Nat × Nat)) : Prop := (l = [] ∧ ∃ ao cap, v = .slice ao 0 cap) ∨ ∃ b off cap, v = .slice (some ⟨b, off, none⟩) l.length cap ∧ l.length ≤ cap ∧ cap ≤ maxLen ∧ FtAt W b off l
theorem FtAt.next {b off : Nat} {W W' : World} {l : List (Nat × Nat)} (h : FtAt W b off l) (hb : Below W.heap.size W W') : FtAt W' b off l :=
  ⟨Nat.lt_of_lt_of_le h.1 hb.size, fun i p hi => ⟨(hb.cell (p := ⟨b, off + i * 2, none⟩) h.1).trans (h.2 i p hi).1, (hb.cell (p := ⟨b, off + i * 2 + 1, none⟩) h.1).trans (h.2 i p hi).2⟩⟩
theorem HasFts.next {W W' : World} {v : Value} {l : List (Nat × Nat)} (h : HasFts W v l) (hb : Below W.heap.size W W') : HasFts W' v l := by
  rcases h with h | ⟨b, off, cap, h1, h2, h3, h4⟩
  · exact .inl h
  · exact .inr ⟨b, off, cap, h1, h2, h3, h4.next hb⟩
theorem HasFts.dat {W : World} {v : Value} {l : List (Nat × Nat)} (h : HasFts W v l) : ∃ ao cap, v = .slice ao l.length cap ∧ (l = [] ∨ ∃ b off, ao = some ⟨b, off, none⟩ ∧ FtAt W b off l) := by
  rcases h with ⟨rfl, ao, cap, rfl⟩ | ⟨b, off, cap, rfl, _, _, hd⟩
  · exact ⟨ao, cap, rfl, .inl rfl⟩
  · exact ⟨_, cap, rfl, .inr ⟨b, off, rfl, hd⟩⟩
theorem fts_of_owns {W : World} {base : Nat} {e : TypeId} {v : Value} {l : List (Nat × Nat)} (h : W.ownsRow base e 2 v l.length (l.flatMap ftC)) : HasFts W v l := by
  rcases owns_flat (f := ftC) (s := 2) (fun _ => rfl) h with ⟨rfl, rfl⟩ | ⟨g, cap, rfl, h1, h2, h3, h4⟩
  · exact .inl ⟨rfl, none, 0, rfl⟩
  · exact .inr ⟨g, 0, cap, rfl, h1, h2, h3, fun i p hi => ⟨h4 i p 0 _ hi rfl, h4 i p 1 _ hi rfl⟩⟩
theorem nodes_of_owns {W : World} {base : Nat} {e : TypeId} {v : Value} {l : List Nd} (h : W.ownsRow base e 7 v l.length (l.flatMap ndC)) : HasNodes W v l := by
  rcases owns_flat (f := ndC) (s := 7) (fun _ => rfl) h with ⟨rfl, rfl⟩ | ⟨g, cap, rfl, h1, h2, h3, h4⟩
  · exact .inl ⟨rfl, none, 0, rfl⟩
  · exact .inr ⟨g, 0, cap, rfl, h1, h2, h3, fun i d hi => ⟨h4 i d 0 _ hi rfl, h4 i d 1 _ hi rfl, h4 i d 2 _ hi rfl, h4 i d 3 _ hi rfl, h4 i d 4 _ hi rfl, h4 i d 5 _ hi rfl, h4 i d 6 _ hi rfl⟩⟩
theorem map_flat (l : List Int) : (l.map fun x => Value.int .i64 x) = l.flatMap fun x => [Value.int .i64 x] := by induction l <;> simp_all
theorem nums_of_owns {W : World} {base : Nat} {e : TypeId} {v : Value} {l : List Int} (h : W.ownsRow base e 1 v l.length (l.map fun x => .int .i64 x)) : HasNums W v l := by
  rw [map_flat] at h
  rcases owns_flat (f := fun x : Int => [Value.int .i64 x]) (s := 1) (fun _ => rfl) h with ⟨rfl, rfl⟩ | ⟨g, cap, rfl, h1, h2, h3, h4⟩
  · exact .inl ⟨rfl, none, 0, rfl⟩
  · exact .inr ⟨g, 0, cap, rfl, h1, h2, h3, fun i x hi => by have := h4 i x 0 _ hi rfl; simpa using this⟩
end Go.Proofs
/- The document's own answers on nodes of instances: coord, demand, window, service. Conditions: the node is there. -/
namespace Go.Proofs
open Go.RowKit Go.Shelf Go.Canon
attribute [local go_sem] Oper.semAt_some

theorem HasIns.node {W : World} {vn vm : Value} {x : Ins} (h : HasIns W vn vm x) {i : Nat} (hi : i < x.nodes.length) : ∃ b off cap, vn = .slice (some ⟨b, off, none⟩) x.nodes.length cap ∧ b < W.heap.size ∧ NdAt W b (off + i * 7) (at' x i) := by
  rcases h.nodes with ⟨h0, _⟩ | ⟨b, off, cap, rfl, _, _, hd⟩
  · rw [h0] at hi; cases hi
  · refine ⟨b, off, cap, rfl, hd.1, hd.2 i _ ?_⟩
    simp [at', List.getD, hi]

theorem beq_dec (a b : Int) : (a == b) = decide (a = b) := by rw [Bool.eq_iff_iff]; simp
theorem below_box (w : World) (o : Obj) : Below w.heap.size w (w.alloc o) := (Below.refl _ w).alloc (Nat.le_refl _) _
set_option maxRecDepth 100000 in
theorem Try.rservice_calls (x : Ins) (vn vm : Value) (i : Nat) (w : World) (hx : HasIns w vn vm x) (hi : i < x.nodes.length) :
    Calls Try.prog 53 #[insV x vn vm, .int .i64 (i : Int)] w fun e w' => e = .returned (.bool (serviceB x.kind (at' x i))) ∧ Below w.heap.size w w' := by
  obtain ⟨b, off, cap, rfl, hb, hd⟩ := hx.node hi
  have Z := fun (w : World) => Try.rnumber_calls (at' x i).service w
  have d0 := hd.service
  have ii : (i : Int) < (x.nodes.length : Int) := by omega
  unfold insV serviceB
  generalize x.nodes.length = L at hi ii ⊢
  generalize (at' x i).service = s at d0 Z ⊢
  generalize x.kind = k
  clear hx hd
  by_cases h1 : k = 1
  · subst h1
    rw [if_pos (.inl rfl)]
    go_enter Try.func53, Try.ntmps53
    go_wp2
    go_ret
    exact ⟨cret_is (beq_dec _ _), below_box _ _⟩
  · have k1 : (k == 1) = false := beq_eq_false_iff_ne.2 h1
    by_cases h2 : k = 2
    · subst h2
      rw [if_pos (.inr rfl)]
      go_enter Try.func53, Try.ntmps53
      go_wp2
      go_ret
      exact ⟨cret_is (beq_dec _ _), below_box _ _⟩
    · have k2 : (k == 2) = false := beq_eq_false_iff_ne.2 h2
      rw [if_neg (by omega)]
      clear h1 h2
      go_enter Try.func53, Try.ntmps53
      go_wp2_with (go_at_call 62; (with_reducible refine (Z _).mono ?_); rintro e w1 ⟨rfl, hw1⟩; obtain rfl : _ = w1 := hw1.symm)
      go_ret
      exact ⟨rfl, below_box _ _⟩
set_option maxRecDepth 100000 in
theorem Try.rdemand_calls (x : Ins) (vn vm : Value) (i : Nat) (w : World) (hx : HasIns w vn vm x) (hi : i < x.nodes.length) :
    Calls Try.prog 51 #[insV x vn vm, .int .i64 (i : Int)] w fun e w' => e = .returned (.bool (demandB x.kind i (at' x i))) ∧ Below w.heap.size w w' := by
  obtain ⟨b, off, cap, rfl, hb, hd⟩ := hx.node hi
  have Z := fun (w : World) => Try.rnumber_calls (at' x i).demand w
  have S := fun (w : World) => Try.rsigned_calls (at' x i).demand w
  have d0 := hd.demand
  have ii : (i : Int) < (x.nodes.length : Int) := by omega
  unfold insV demandB
  generalize x.nodes.length = L at hi ii ⊢
  generalize (at' x i).demand = s at d0 Z S ⊢
  generalize x.kind = k
  clear hx hd
  by_cases h1 : k = 1
  · subst h1
    rw [if_pos (.inl rfl)]
    go_enter Try.func51, Try.ntmps51
    go_wp2
    go_ret
    exact ⟨cret_is (beq_dec _ _), below_box _ _⟩
  · have k1 : (k == 1) = false := beq_eq_false_iff_ne.2 h1
    by_cases h2 : i = 0
    · have k2 : ((i : Int) == 0) = true := beq_iff_eq.2 (by omega)
      rw [if_pos (.inr h2)]
      clear h1 h2
      go_enter Try.func51, Try.ntmps51
      go_wp2
      go_ret
      exact ⟨cret_is (beq_dec _ _), below_box _ _⟩
    · have k2 : ((i : Int) == 0) = false := beq_eq_false_iff_ne.2 (by omega)
      rw [if_neg (by omega)]
      generalize number s = nb at Z ⊢
      generalize signed s = sb at S ⊢
      clear h1 h2
      cases nb with
      | true =>
        go_enter Try.func51, Try.ntmps51
        go_wp2_with (go_at_call 62; (with_reducible refine (Z _).mono ?_); rintro e w1 ⟨rfl, hw1⟩; obtain rfl : _ = w1 := hw1.symm)
        go_ret
        exact ⟨rfl, below_box _ _⟩
      | false =>
        by_cases h4 : k = 4
        · subst h4
          go_enter Try.func51, Try.ntmps51
          go_wp2_with (first
            | (go_at_call 62; (with_reducible refine (Z _).mono ?_); rintro e w1 ⟨rfl, hw1⟩; obtain rfl : _ = w1 := hw1.symm)
            | (go_at_call 63; (with_reducible refine (S _).mono ?_); rintro e w2 ⟨rfl, hw2⟩; obtain rfl : _ = w2 := hw2.symm))
          go_ret
          exact ⟨cret_is (by simp), below_box _ _⟩
        · have k4 : (k == 4) = false := beq_eq_false_iff_ne.2 h4
          have e4 : decide (k = 4) = false := decide_eq_false h4
          rw [e4]
          clear h4 e4
          go_enter Try.func51, Try.ntmps51
          go_wp2_with (first
            | (go_at_call 62; (with_reducible refine (Z _).mono ?_); rintro e w1 ⟨rfl, hw1⟩; obtain rfl : _ = w1 := hw1.symm)
            | (go_at_call 63; (with_reducible refine (S _).mono ?_); rintro e w2 ⟨rfl, hw2⟩; obtain rfl : _ = w2 := hw2.symm))
          go_ret
          exact ⟨cret_is (by simp), below_box _ _⟩
end Go.Proofs
/- The document's own answers on nodes of instances: coord, window. Conditions: the node is there. -/
namespace Go.Proofs
open Go.RowKit Go.Shelf Go.Canon
attribute [local go_sem] Oper.semAt_some

theorem below_two (w : World) (o p : Obj) : Below w.heap.size w ((w.alloc o).alloc p) := (below_box w o).alloc (below_box w o).size _
set_option maxRecDepth 100000 in
theorem Try.rcoord_calls (x : Ins) (vn vm : Value) (i : Nat) (w : World) (hx : HasIns w vn vm x) (hi : i < x.nodes.length) :
    Calls Try.prog 50 #[insV x vn vm, .int .i64 (i : Int)] w fun e w' => e = .returned (.bool (coordB x.metric (at' x i))) ∧ Below w.heap.size w w' := by
  obtain ⟨b, off, cap, rfl, hb, hd⟩ := hx.node hi
  obtain ⟨c0, c1, c2, c3, c4, c5, c6⟩ := hd
  have S := fun (w : World) => Try.rsigned_calls (at' x i).x w
  have T := fun (w : World) => Try.rsigned_calls (at' x i).y w
  have ii : (i : Int) < (x.nodes.length : Int) := by omega
  unfold insV coordB
  generalize x.nodes.length = L at hi ii ⊢
  generalize at' x i = d at *
  obtain ⟨dx, dy, dd, dr, du, ds, dm⟩ := d
  dsimp only at *
  generalize x.metric = k
  clear hx
  generalize signed dx = sx at S ⊢
  generalize signed dy = sy at T ⊢
  cases sx with
  | false =>
    go_enter Try.func50, Try.ntmps50
    go_wp2_with (first
      | (go_at_call 63; (with_reducible refine (S _).mono ?_); rintro e w1 ⟨rfl, hw1⟩; obtain rfl : _ = w1 := hw1.symm))
    go_ret
    exact ⟨rfl, below_two _ _ _⟩
  | true =>
    cases sy with
    | false =>
      go_enter Try.func50, Try.ntmps50
      go_wp2_with (first
        | (go_at_call 63; (with_reducible refine (S _).mono ?_); rintro e w1 ⟨rfl, hw1⟩; obtain rfl : _ = w1 := hw1.symm)
        | (go_at_call 63; (with_reducible refine (T _).mono ?_); rintro e w2 ⟨rfl, hw2⟩; obtain rfl : _ = w2 := hw2.symm))
      go_ret
      exact ⟨rfl, below_two _ _ _⟩
    | true =>
      by_cases h0 : k = 0
      · subst h0
        by_cases hx0 : dx = 0
        · subst hx0
          go_enter Try.func50, Try.ntmps50
          go_wp2_with (first
            | (go_at_call 63; (with_reducible refine (S _).mono ?_); rintro e w1 ⟨rfl, hw1⟩; obtain rfl : _ = w1 := hw1.symm)
            | (go_at_call 63; (with_reducible refine (T _).mono ?_); rintro e w2 ⟨rfl, hw2⟩; obtain rfl : _ = w2 := hw2.symm))
          go_ret
          exact ⟨cret_is (by simp [beq_dec]), below_two _ _ _⟩
        · have kx : (dx == 0) = false := beq_eq_false_iff_ne.2 hx0
          have ex : decide (dx = 0) = false := decide_eq_false hx0
          rw [ex]
          clear hx0 ex
          go_enter Try.func50, Try.ntmps50
          go_wp2_with (first
            | (go_at_call 63; (with_reducible refine (S _).mono ?_); rintro e w1 ⟨rfl, hw1⟩; obtain rfl : _ = w1 := hw1.symm)
            | (go_at_call 63; (with_reducible refine (T _).mono ?_); rintro e w2 ⟨rfl, hw2⟩; obtain rfl : _ = w2 := hw2.symm))
          go_ret
          exact ⟨cret_is (by simp), below_two _ _ _⟩
      · have k0 : (k != 0) = true := bne_iff_ne.2 h0
        have e0 : decide (k ≠ 0) = true := decide_eq_true h0
        rw [e0]
        clear h0 e0
        go_enter Try.func50, Try.ntmps50
        go_wp2_with (first
          | (go_at_call 63; (with_reducible refine (S _).mono ?_); rintro e w1 ⟨rfl, hw1⟩; obtain rfl : _ = w1 := hw1.symm)
          | (go_at_call 63; (with_reducible refine (T _).mono ?_); rintro e w2 ⟨rfl, hw2⟩; obtain rfl : _ = w2 := hw2.symm))
        go_ret
        exact ⟨cret_is (by simp), below_two _ _ _⟩
set_option maxRecDepth 100000 in
theorem Try.rwindow_calls (x : Ins) (vn vm : Value) (i : Nat) (w : World) (hx : HasIns w vn vm x) (hi : i < x.nodes.length) :
    Calls Try.prog 52 #[insV x vn vm, .int .i64 (i : Int)] w fun e w' => e = .returned (.bool (windowB x.kind (at' x i))) ∧ Below w.heap.size w w' := by
  obtain ⟨b, off, cap, rfl, hb, hd⟩ := hx.node hi
  obtain ⟨c0, c1, c2, c3, c4, c5, c6⟩ := hd
  have S := fun (w : World) => Try.rnumber_calls (at' x i).ready w
  have T := fun (w : World) => Try.rnumber_calls (at' x i).due w
  have ii : (i : Int) < (x.nodes.length : Int) := by omega
  unfold insV windowB
  generalize x.nodes.length = L at hi ii ⊢
  generalize at' x i = d at *
  obtain ⟨dx, dy, dd, dr, du, ds, dm⟩ := d
  dsimp only at *
  generalize x.kind = k
  clear hx
  by_cases h1 : k = 1 ∨ k = 2
  · rw [if_pos h1]
    by_cases hx0 : dr = 0
    · subst hx0
      rcases h1 with h1 | h1 <;> subst h1
      · go_enter Try.func52, Try.ntmps52
        go_wp2
        go_ret
        exact ⟨cret_is (by simp [beq_dec]), below_two _ _ _⟩
      · go_enter Try.func52, Try.ntmps52
        go_wp2
        go_ret
        exact ⟨cret_is (by simp [beq_dec]), below_two _ _ _⟩
    · have kx : (dr == 0) = false := beq_eq_false_iff_ne.2 hx0
      have ex : decide (dr = 0) = false := decide_eq_false hx0
      rw [ex]
      clear hx0 ex
      rcases h1 with h1 | h1 <;> subst h1
      · go_enter Try.func52, Try.ntmps52
        go_wp2
        go_ret
        exact ⟨cret_is (by simp), below_two _ _ _⟩
      · go_enter Try.func52, Try.ntmps52
        go_wp2
        go_ret
        exact ⟨cret_is (by simp), below_two _ _ _⟩
  · rw [if_neg h1]
    have k1 : (k == 1) = false := beq_eq_false_iff_ne.2 (by omega)
    have k2 : (k == 2) = false := beq_eq_false_iff_ne.2 (by omega)
    clear h1
    generalize number dr = sx at S ⊢
    generalize number du = sy at T ⊢
    cases sx with
    | false =>
      go_enter Try.func52, Try.ntmps52
      go_wp2_with (first
        | (go_at_call 62; (with_reducible refine (S _).mono ?_); rintro e w1 ⟨rfl, hw1⟩; obtain rfl : _ = w1 := hw1.symm))
      go_ret
      exact ⟨rfl, below_two _ _ _⟩
    | true =>
      cases sy with
      | false =>
        go_enter Try.func52, Try.ntmps52
        go_wp2_with (first
          | (go_at_call 62; (with_reducible refine (S _).mono ?_); rintro e w1 ⟨rfl, hw1⟩; obtain rfl : _ = w1 := hw1.symm)
          | (go_at_call 62; (with_reducible refine (T _).mono ?_); rintro e w2 ⟨rfl, hw2⟩; obtain rfl : _ = w2 := hw2.symm))
        go_ret
        exact ⟨rfl, below_two _ _ _⟩
      | true =>
        go_enter Try.func52, Try.ntmps52
        go_wp2_with (first
          | (go_at_call 62; (with_reducible refine (S _).mono ?_); rintro e w1 ⟨rfl, hw1⟩; obtain rfl : _ = w1 := hw1.symm)
          | (go_at_call 62; (with_reducible refine (T _).mono ?_); rintro e w2 ⟨rfl, hw2⟩; obtain rfl : _ = w2 := hw2.symm))
        go_ret
        exact ⟨cret_is (by simp), below_two _ _ _⟩
end Go.Proofs
