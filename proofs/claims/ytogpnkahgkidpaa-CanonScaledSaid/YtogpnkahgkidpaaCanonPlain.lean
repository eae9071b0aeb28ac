/- Plain facts on instances: what may be, their faults, their normal form; no program. -/
namespace Go.Canon
/-- A node: the depot, or a customer. -/
structure Nd where
  x : Int
  y : Int
  demand : Int
  ready : Int
  due : Int
  service : Int
  mate : Int
/-- An instance. -/
structure Ins where
  name : ByteArray
  kind : Int
  metric : Int
  scale : Int
  cap : Int
  fleet : Int
  nodes : List Nd
  matrix : List Int
theorem Nd.ext' {a b : Nd} (h1 : a.x = b.x) (h2 : a.y = b.y) (h3 : a.demand = b.demand) (h4 : a.ready = b.ready) (h5 : a.due = b.due) (h6 : a.service = b.service) (h7 : a.mate = b.mate) : a = b := by
  cases a; cases b; simp_all
instance : DecidableEq Nd := fun a b =>
  if h : a.x = b.x ∧ a.y = b.y ∧ a.demand = b.demand ∧ a.ready = b.ready ∧ a.due = b.due ∧ a.service = b.service ∧ a.mate = b.mate then
    isTrue (Nd.ext' h.1 h.2.1 h.2.2.1 h.2.2.2.1 h.2.2.2.2.1 h.2.2.2.2.2.1 h.2.2.2.2.2.2)
  else isFalse fun e => h (by rw [e]; exact ⟨rfl, rfl, rfl, rfl, rfl, rfl, rfl⟩)
def zeroNd : Nd := ⟨0, 0, 0, 0, 0, 0, 0⟩
def number (n : Int) : Bool := decide (0 ≤ n) && decide (n ≤ 100000000)
def signed (n : Int) : Bool := decide (-100000000 ≤ n) && decide (n ≤ 100000000)
def at' (x : Ins) (i : Nat) : Nd := x.nodes.getD i zeroNd
/-! What may be. -/
def matrixB (x : Ins) : Bool :=
  if x.metric ≠ 0 then decide (x.matrix.length = 0)
  else decide (x.matrix.length = x.nodes.length * x.nodes.length) && (List.range (x.nodes.length * x.nodes.length)).all fun i => number (x.matrix.getD i 0) && !(decide (i % (x.nodes.length + 1) = 0) && decide (x.matrix.getD i 0 ≠ 0))
def coordB (metric : Int) (d : Nd) : Bool := signed d.x && signed d.y && (decide (metric ≠ 0) || (decide (d.x = 0) && decide (d.y = 0)))
def demandB (kind : Int) (i : Nat) (d : Nd) : Bool := if kind = 1 ∨ i = 0 then decide (d.demand = 0) else number d.demand || (decide (kind = 4) && signed d.demand)
def windowB (kind : Int) (d : Nd) : Bool := if kind = 1 ∨ kind = 2 then decide (d.ready = 0) && decide (d.due = 0) else number d.ready && number d.due && decide (d.ready ≤ d.due)
def serviceB (kind : Int) (d : Nd) : Bool := if kind = 1 ∨ kind = 2 then decide (d.service = 0) else number d.service
/-- A demand turned over, in 64 bits. -/
def neg64 (a : Int) : Int := if (-a) % 18446744073709551616 ≥ 9223372036854775808 then (-a) % 18446744073709551616 - 18446744073709551616 else (-a) % 18446744073709551616
def mateB (x : Ins) (i : Nat) : Bool :=
  if x.kind ≠ 4 ∨ i = 0 then decide ((at' x i).mate = 0)
  else if (at' x i).mate < 1 ∨ (x.nodes.length : Int) ≤ (at' x i).mate ∨ (at' x i).mate = (i : Int) ∨ (at' x (at' x i).mate.toNat).mate ≠ (i : Int) then false
  else decide ((at' x i).demand ≠ 0) && decide ((at' x (at' x i).mate.toNat).demand = neg64 (at' x i).demand)
/-! The faults. -/
def says (b : Bool) (f : Nat) (n : Nat) : List (Nat × Nat) := if b = true then [] else [(f, n)]
def scaleB (metric scale : Int) : Bool := decide (0 ≤ scale) && decide (scale ≤ 6) && !(decide (metric = 0) && decide (scale ≠ 0))
def capB (kind cap : Int) : Bool := if kind = 1 then decide (cap = 0) else decide (1 ≤ cap) && decide (cap ≤ 100000000)
def fleetB (kind fleet : Int) : Bool := if kind = 1 then decide (fleet = 0) else decide (0 ≤ fleet) && decide (fleet ≤ 400)
def kindB (kind : Int) : Bool := decide (1 ≤ kind) && decide (kind ≤ 4)
def metricB (metric : Int) : Bool := decide (0 ≤ metric) && decide (metric ≤ 6)
def heads (N : ByteArray → Bool) (x : Ins) : List (Nat × Nat) :=
  says (N x.name) 1 0 ++ says (kindB x.kind) 2 0 ++ says (metricB x.metric) 3 0 ++ says (scaleB x.metric x.scale) 4 0 ++ says (capB x.kind x.cap) 5 0 ++ says (fleetB x.kind x.fleet) 6 0
def nodeF (x : Ins) (i : Nat) : List (Nat × Nat) :=
  says (coordB x.metric (at' x i)) 9 i ++ says (demandB x.kind i (at' x i)) 10 i ++ says (windowB x.kind (at' x i)) 11 i ++ says (serviceB x.kind (at' x i)) 12 i ++ says (mateB x i) 13 i
def nodesF (x : Ins) : Nat → List (Nat × Nat)
  | 0 => []
  | i + 1 => nodesF x i ++ nodeF x i
/-- canon.Check. -/
def checkL (N : ByteArray → Bool) (x : Ins) : List (Nat × Nat) :=
  heads N x ++ if x.nodes.length < 1 ∨ 400 < x.nodes.length then [(7, 0)] else says (matrixB x) 8 0 ++ nodesF x x.nodes.length
def wellB (N : ByteArray → Bool) (x : Ins) : Bool := decide (checkL N x = [])

/-! The normal form. -/
def wholeNd (d : Nd) : Bool := decide (d.x.tmod 10 = 0) && decide (d.y.tmod 10 = 0)
def whole (l : List Nd) : Bool := l.all wholeNd
def shrinkNd (d : Nd) : Nd := { d with x := d.x.tdiv 10, y := d.y.tdiv 10 }
def shrink (l : List Nd) : List Nd := l.map shrinkNd
def normN : Nat → List Nd → Nat × List Nd
  | 0, l => (0, l)
  | s + 1, l => if whole l = true then normN s (shrink l) else (s + 1, l)
def norm (x : Ins) : Ins := if 1 ≤ x.scale ∧ x.scale ≤ 6 then { x with scale := ((normN x.scale.toNat x.nodes).1 : Int), nodes := (normN x.scale.toNat x.nodes).2 } else x
theorem shrink_length (l : List Nd) : (shrink l).length = l.length := by simp [shrink]
theorem normN_length : ∀ (s : Nat) (l : List Nd), (normN s l).2.length = l.length
  | 0, _ => rfl
  | s + 1, l => by
    rw [normN]; split
    · rw [normN_length s, shrink_length]
    · rfl
theorem normN_le : ∀ (s : Nat) (l : List Nd), (normN s l).1 ≤ s
  | 0, _ => Nat.le_refl _
  | s + 1, l => by
    rw [normN]; split
    · exact Nat.le_succ_of_le (normN_le s _)
    · exact Nat.le_refl _
theorem normN_own : ∀ (s : Nat) (l : List Nd), normN (normN s l).1 (normN s l).2 = normN s l
  | 0, _ => rfl
  | s + 1, l => by
    by_cases h : whole l = true
    · simp only [normN, h, if_true]; exact normN_own s _
    · have e : normN (s + 1) l = (s + 1, l) := by rw [normN, if_neg h]
      rw [e]; exact e
theorem norm_length (x : Ins) : (norm x).nodes.length = x.nodes.length := by
  unfold norm; split
  · exact normN_length _ _
  · rfl
theorem norm_scale (x : Ins) : (norm x).scale ≤ x.scale := by
  unfold norm; split
  · rename_i h
    have := normN_le x.scale.toNat x.nodes
    show ((normN x.scale.toNat x.nodes).1 : Int) ≤ x.scale
    omega
  · exact Int.le_refl _
theorem norm_own (x : Ins) : norm (norm x) = norm x := by
  by_cases h : 1 ≤ x.scale ∧ x.scale ≤ 6
  · have e : norm x = { x with scale := ((normN x.scale.toNat x.nodes).1 : Int), nodes := (normN x.scale.toNat x.nodes).2 } := by unfold norm; rw [if_pos h]
    rw [e]
    generalize hs : x.scale.toNat = s
    have ho := normN_own s x.nodes
    generalize hp : normN s x.nodes = p at ho
    obtain ⟨s', l'⟩ := p
    simp only at ho ⊢
    unfold norm
    by_cases h2 : 1 ≤ (s' : Int) ∧ (s' : Int) ≤ 6
    · rw [if_pos h2]
      simp only [Int.toNat_natCast, ho]
    · rw [if_neg h2]
  · have e : norm x = x := by unfold norm; rw [if_neg h]
    rw [e, e]
/-- What the normal form of a node keeps: all but its point, and that is no further. -/
structure Shr (d d' : Nd) : Prop where
  x : d'.x.natAbs ≤ d.x.natAbs
  y : d'.y.natAbs ≤ d.y.natAbs
  rest : d'.demand = d.demand ∧ d'.ready = d.ready ∧ d'.due = d.due ∧ d'.service = d.service ∧ d'.mate = d.mate
theorem Shr.refl (d : Nd) : Shr d d := ⟨Nat.le_refl _, Nat.le_refl _, rfl, rfl, rfl, rfl, rfl⟩
theorem Shr.trans {a b c : Nd} (h : Shr a b) (k : Shr b c) : Shr a c :=
  ⟨Nat.le_trans k.x h.x, Nat.le_trans k.y h.y, k.rest.1.trans h.rest.1, k.rest.2.1.trans h.rest.2.1, k.rest.2.2.1.trans h.rest.2.2.1, k.rest.2.2.2.1.trans h.rest.2.2.2.1, k.rest.2.2.2.2.trans h.rest.2.2.2.2⟩
theorem tdiv_le (a : Int) : (a.tdiv 10).natAbs ≤ a.natAbs := by
  rw [Int.natAbs_tdiv]; exact Nat.div_le_self _ _
theorem shr_shrink (d : Nd) : Shr d (shrinkNd d) := ⟨tdiv_le _, tdiv_le _, rfl, rfl, rfl, rfl, rfl⟩
theorem normN_shr : ∀ (s : Nat) (l : List Nd) (i : Nat), Shr (l.getD i zeroNd) ((normN s l).2.getD i zeroNd)
  | 0, _, _ => Shr.refl _
  | s + 1, l, i => by
    rw [normN]; split
    · refine Shr.trans ?_ (normN_shr s (shrink l) i)
      by_cases hi : i < l.length
      · have e1 : l.getD i zeroNd = l[i] := by simp [List.getD, hi]
        have e2 : (shrink l).getD i zeroNd = shrinkNd l[i] := by simp [shrink, List.getD, hi]
        rw [e1, e2]; exact shr_shrink _
      · have e1 : l.getD i zeroNd = zeroNd := by simp [List.getD, List.getElem?_eq_none (show l.length ≤ i by omega)]
        have e2 : (shrink l).getD i zeroNd = zeroNd := by simp [shrink, List.getD, List.getElem?_eq_none (show l.length ≤ i by omega)]
        rw [e1, e2]; exact Shr.refl _
    · exact Shr.refl _
theorem norm_shr (x : Ins) (i : Nat) : Shr (at' x i) (at' (norm x) i) := by
  unfold at' norm; split
  · exact normN_shr _ _ _
  · exact Shr.refl _
theorem norm_keeps (x : Ins) : (norm x).name = x.name ∧ (norm x).kind = x.kind ∧ (norm x).metric = x.metric ∧ (norm x).cap = x.cap ∧ (norm x).fleet = x.fleet ∧ (norm x).matrix = x.matrix := by
  unfold norm; split <;> exact ⟨rfl, rfl, rfl, rfl, rfl, rfl⟩
/-! No fault comes. -/
theorem says_sub {a b : Bool} {f n : Nat} (h : a = true → b = true) : (says b f n).Sublist (says a f n) := by
  unfold says
  cases ha : a with
  | true => rw [h ha]; simp
  | false => cases b <;> simp
theorem coord_norm {metric : Int} {d d' : Nd} (h : Shr d d') (hc : coordB metric d = true) : coordB metric d' = true := by
  have hx := h.x
  have hy := h.y
  simp only [coordB, signed, Bool.and_eq_true, Bool.or_eq_true, decide_eq_true_eq] at hc ⊢
  refine ⟨⟨⟨by omega, by omega⟩, by omega, by omega⟩, ?_⟩
  rcases hc.2 with hm | ⟨h0, h1⟩
  · exact .inl hm
  · exact .inr ⟨by omega, by omega⟩
theorem mate_norm (x : Ins) (i : Nat) : mateB (norm x) i = mateB x i := by
  have h1 := norm_keeps x
  have hi := (norm_shr x i).rest
  unfold mateB
  rw [h1.2.1, hi.2.2.2.2, hi.1, norm_length, (norm_shr x (at' x i).mate.toNat).rest.2.2.2.2, (norm_shr x (at' x i).mate.toNat).rest.1]
theorem matrix_norm (x : Ins) : matrixB (norm x) = matrixB x := by
  have h1 := norm_keeps x
  unfold matrixB
  rw [h1.2.2.1, h1.2.2.2.2.2, norm_length]
theorem scale_norm (x : Ins) (h : scaleB x.metric x.scale = true) : scaleB x.metric (norm x).scale = true := by
  by_cases hs : 1 ≤ x.scale ∧ x.scale ≤ 6
  · have hl := norm_scale x
    have h0 : 0 ≤ (norm x).scale := by unfold norm; rw [if_pos hs]; exact Int.natCast_nonneg _
    simp only [scaleB, Bool.and_eq_true, decide_eq_true_eq, Bool.not_eq_true', Bool.and_eq_false_iff, decide_eq_false_iff_not] at h ⊢
    refine ⟨⟨h0, by omega⟩, ?_⟩
    rcases h.2 with hm | hm
    · exact .inl hm
    · omega
  · have e : norm x = x := by unfold norm; rw [if_neg hs]
    rw [e]; exact h
theorem nodeF_norm (x : Ins) (i : Nat) : (nodeF (norm x) i).Sublist (nodeF x i) := by
  have h1 := norm_keeps x
  have hi := norm_shr x i
  unfold nodeF
  rw [mate_norm, h1.2.1, h1.2.2.1]
  have e1 : demandB x.kind i (at' (norm x) i) = demandB x.kind i (at' x i) := by unfold demandB; rw [hi.rest.1]
  have e2 : windowB x.kind (at' (norm x) i) = windowB x.kind (at' x i) := by unfold windowB; rw [hi.rest.2.1, hi.rest.2.2.1]
  have e3 : serviceB x.kind (at' (norm x) i) = serviceB x.kind (at' x i) := by unfold serviceB; rw [hi.rest.2.2.2.1]
  rw [e1, e2, e3]
  exact ((((says_sub (coord_norm hi)).append (List.Sublist.refl _)).append (List.Sublist.refl _)).append (List.Sublist.refl _)).append (List.Sublist.refl _)
theorem nodesF_norm (x : Ins) (n : Nat) : (nodesF (norm x) n).Sublist (nodesF x n) := by
  induction n with
  | zero => exact List.Sublist.refl _
  | succ n ih => exact ih.append (nodeF_norm x n)
/-- A normal form has no fault that the instance has not. -/
theorem check_norm (N : ByteArray → Bool) (x : Ins) : (checkL N (norm x)).Sublist (checkL N x) := by
  have h1 := norm_keeps x
  unfold checkL heads
  rw [h1.1, h1.2.1, h1.2.2.1, h1.2.2.2.1, h1.2.2.2.2.1, norm_length, matrix_norm]
  refine List.Sublist.append ?_ ?_
  · exact (((List.Sublist.refl _).append (says_sub (scale_norm x))).append (List.Sublist.refl _)).append (List.Sublist.refl _)
  · split
    · exact List.Sublist.refl _
    · exact (List.Sublist.refl _).append (nodesF_norm x _)
theorem well_norm (N : ByteArray → Bool) (x : Ins) (h : wellB N x = true) : wellB N (norm x) = true := by
  unfold wellB at h ⊢
  have h := of_decide_eq_true h
  have := check_norm N x
  rw [h] at this
  exact decide_eq_true (List.sublist_nil.1 this)
/-! Ten times as far. -/
def tenNd (d : Nd) : Nd := { d with x := 10 * d.x, y := 10 * d.y }
theorem whole_ten (l : List Nd) : whole (l.map tenNd) = true := by
  simp [whole, tenNd, wholeNd]
theorem shrink_ten (l : List Nd) : shrink (l.map tenNd) = l := by
  unfold shrink
  rw [List.map_map]
  have : (shrinkNd ∘ tenNd) = id := funext fun d => by
    simp [shrinkNd, tenNd]
  rw [this, List.map_id]
theorem norm_ten {x : Ins} (h0 : 0 ≤ x.scale) (h6 : x.scale < 6) : norm { x with scale := x.scale + 1, nodes := x.nodes.map tenNd } = norm x := by
  have e : norm { x with scale := x.scale + 1, nodes := x.nodes.map tenNd } = { x with scale := ((normN (x.scale + 1).toNat (x.nodes.map tenNd)).1 : Int), nodes := (normN (x.scale + 1).toNat (x.nodes.map tenNd)).2 } := by
    unfold norm; rw [if_pos (show 1 ≤ x.scale + 1 ∧ x.scale + 1 ≤ 6 from ⟨by omega, by omega⟩)]
  rw [e, show (x.scale + 1).toNat = x.scale.toNat + 1 by omega, normN, if_pos (whole_ten _), shrink_ten]
  unfold norm
  by_cases h1 : 1 ≤ x.scale
  · rw [if_pos ⟨h1, by omega⟩]
  · rw [if_neg (by omega), show x.scale.toNat = 0 by omega]
    have : x.scale = 0 := by omega
    cases x
    simp_all [normN]
#print axioms check_norm
#print axioms norm_own
#print axioms norm_ten
end Go.Canon
