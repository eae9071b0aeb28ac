/- express.Can, if it asks whether Lacks tells none. Conditions: what Lacks answers. -/
import Derived.Test.YtebkmcafahkdbaaG07
import Derived.Test.YtebkmcafahkdbaaG04
import Derived.Test.YtebkmcafahkdbaaG09
import Derived.Test.YtebkmcafahkdbaaG17
namespace Go.Proofs
open Go.RowKit Go.Shelf Go.Canon
attribute [local go_sem] Oper.semAt_some
set_option maxRecDepth 100000 in
theorem Try.exprCan (HL : ∀ (f : Int) (x : Ins) (vn vm : Value) (W : World), HasIns W vn vm x → x.nodes.length ≤ 400 → Calls Try.prog 9 #[.int .i64 f, insV x vn vm] W fun e w' => ∃ v', e = .returned v' ∧ HasInts w' v' (Go.Expr.lacksL f x) ∧ Below W.heap.size W w')
    (f : Int) (x : Ins) (vn vm : Value) (w : World) (hx : HasIns w vn vm x) (hl : x.nodes.length ≤ 400) :
    Calls Try.prog 13 #[.int .i64 f, insV x vn vm] w fun e w' => e = .returned (.bool (Go.Expr.canB f x)) ∧ Below w.heap.size w w' := by
  have HX := Lib.hid hx
  have HLK := Lib.hid fun W h => HL f x vn vm W h hl
  have HCB : Hid (Go.Expr.canB f x = decide ((Go.Expr.lacksL f x).length = 0)) := rfl
  obtain ⟨an, cn, rfl, _⟩ := hx.nodes.dat
  obtain ⟨am, cm, rfl, _⟩ := hx.matrix.dat
  unfold insV at HLK ⊢
  clear hx HL
  generalize x.nodes.length = L at *
  generalize x.matrix.length = M at *
  generalize Go.Expr.canB f x = cb at *
  generalize Go.Expr.lacksL f x = K at *
  have HB := Lib.hid (fbelow_box w (.cells #[.string x.name, .int .i64 x.kind, .int .i64 x.metric, .int .i64 x.scale, .int .i64 x.cap, .int .i64 x.fleet, .slice an L cn, .slice am M cm] 25))
  go_enter Try.func13, Try.ntmps13
  go_wp2_with (go_at_call 9; (with_reducible refine (HLK.out _ (HX.out.next HB.out)).mono ?_); rintro e w1 ⟨v1, rfl, hv1, hb1⟩; have HB1 := Lib.hid (HB.out.trans (hb1.mono HB.out.size)); obtain ⟨ao, cap, rfl⟩ := hv1.len; clear hv1 hb1)
  go_ret
  exact ⟨cret_is (by rw [HCB.out]; exact nat_beq (b := 0) _ rfl), HB1.out⟩
end Go.Proofs
/- The landed express.Lacks and Can: what they answer (ExprC). Conditions: a million nodes at most. -/
namespace Go.Proofs
open Go.RowKit Go.Shelf Go.Canon Go.Expr
attribute [local go_sem] Oper.semAt_some
set_option maxRecDepth 100000 in
set_option maxHeartbeats 1000000 in
theorem Try.lacksAll (f : Int) (x : Ins) (vn vm : Value) (w : World) (hx : HasIns w vn vm x) (hl : x.nodes.length ≤ 400) :
    Calls Try.prog 9 #[.int .i64 f, insV x vn vm] w fun e w' => ∃ v', e = .returned v' ∧ HasInts w' v' (lacksL f x) ∧ Below w.heap.size w w' := by
  by_cases h1 : f = 1
  · subst h1
    rw [← told_one]
    exact Try.lacks_1 x vn vm w hx (by omega)
  by_cases h2 : f = 2
  · subst h2
    rw [← told_two]
    exact Try.lacks_2 x vn vm w hx (by omega)
  by_cases h3 : f = 3
  · subst h3
    rw [← told_three]
    exact Try.lacks_3 x vn vm w hx
  have k1 : (f == (1 : Int)) = false := beq_false_of_ne h1
  have k2 : (f == (2 : Int)) = false := beq_false_of_ne h2
  have k3 : (f == (3 : Int)) = false := beq_false_of_ne h3
  obtain ⟨an, cn, rfl, _⟩ := hx.nodes.dat
  obtain ⟨am, cm, rfl, _⟩ := hx.matrix.dat
  have HS := Lib.hid (LbS.new w x (.slice an x.nodes.length cn) (.slice am x.matrix.length cm))
  unfold insV
  by_cases h4 : f = 4
  · subst h4
    have HN := Lib.hid (lacks_none (f := 4) (x := x) (by decide) (by decide))
    clear hx hl h1 h2 h3
    generalize lacksL 4 x = K at *
    generalize x.nodes.length = L at *
    generalize x.matrix.length = M at *
    go_enter Try.func9, Try.ntmps9
    go_wp2
    go_ret
    exact ⟨_, rfl, by rw [HN.out]; exact HasInts.nil _, HS.out.below⟩
  have k4 : (f == (4 : Int)) = false := beq_false_of_ne h4
  by_cases h5 : f = 5
  · subst h5
    have HN := Lib.hid (lacks_none (f := 5) (x := x) (by decide) (by decide))
    clear hx hl h1 h2 h3 h4
    generalize lacksL 5 x = K at *
    generalize x.nodes.length = L at *
    generalize x.matrix.length = M at *
    go_enter Try.func9, Try.ntmps9
    go_wp2
    go_ret
    exact ⟨_, rfl, by rw [HN.out]; exact HasInts.nil _, HS.out.below⟩
  have k5 : (f == (5 : Int)) = false := beq_false_of_ne h5
  have HU := Lib.hid (lacks_upTo (f := f) x (by omega))
  have HA := Lib.hid fun W => Try.allFields_calls W
  clear hx hl h1 h2 h3 h4 h5
  generalize lacksL f x = K at *
  generalize x.nodes.length = L at *
  generalize x.matrix.length = M at *
  rw [HU.out] at HA
  go_enter Try.func9, Try.ntmps9
  go_wp2_with (go_at_call 28; (with_reducible refine (HA.out _).mono ?_); rintro e w1 ⟨v1, rfl, hv1, hb1⟩; have HO := Lib.hid hv1; have HB1 := Lib.hid (HS.out.below.trans (hb1.mono HS.out.below.size)); obtain ⟨ao, cap, rfl⟩ := hv1.len; clear hb1)
  go_ret
  exact ⟨_, rfl, HO.out, HB1.out⟩
theorem Try.exprC : Try.ExprC := ⟨Try.lacksAll, Try.exprCan Try.lacksAll⟩
end Go.Proofs
/- Plain facts: an instance whose fields are turned into what a format can express. No program. -/
namespace Go.Expr
open Go.Canon
def turnNd (g : Int) (d : Nd) : Nd :=
  if g = 10 then { d with demand := max 0 d.demand }
  else if g = 11 then { d with ready := 0, due := 0 }
  else if g = 12 then { d with service := 0 }
  else if g = 13 then { d with mate := 0 }
  else d
def turnH (f g : Int) (x : Ins) : Ins :=
  { x with name := if g = 1 then lilim else x.name, kind := if g = 2 then f + 1 else x.kind, metric := if g = 3 then (if f = 1 then 2 else 6) else x.metric, scale := if g = 4 then 0 else x.scale, fleet := if g = 6 then min 1 (f - 1) else x.fleet }
def turn (f g : Int) (x : Ins) : Ins := { turnH f g x with nodes := x.nodes.map (turnNd g) }
def turnN (g : Int) (l : List Nd) (k : Nat) : List Nd := (l.take k).map (turnNd g) ++ l.drop k
theorem turnN_len (g : Int) (l : List Nd) {k : Nat} (h : k ≤ l.length) : (turnN g l k).length = l.length := by simp [turnN]; omega
theorem turnN_zero (g : Int) (l : List Nd) : turnN g l 0 = l := by simp [turnN]
theorem turnN_all (g : Int) (l : List Nd) : turnN g l l.length = l.map (turnNd g) := by simp [turnN]
theorem turnN_get {g : Int} {l : List Nd} {k : Nat} {d : Nd} (h : l[k]? = some d) : (turnN g l k)[k]? = some d := by
  have hk := (List.getElem?_eq_some_iff.1 h).1
  unfold turnN
  rw [List.getElem?_append_right (by simp; omega)]
  simp only [List.length_map, List.length_take, List.getElem?_drop]
  rw [show k + (k - min k l.length) = k by omega]
  exact h
theorem turnN_set {g : Int} {l : List Nd} {k : Nat} {d : Nd} (h : l[k]? = some d) : (turnN g l k).set k (turnNd g d) = turnN g l (k + 1) := by
  have hk := (List.getElem?_eq_some_iff.1 h).1
  unfold turnN
  rw [List.set_append_right _ _ (by simp; omega)]
  simp only [List.length_map, List.length_take]
  rw [show k - min k l.length = 0 by omega, List.take_add_one, h, List.map_append]
  have e : l.drop k = d :: l.drop (k + 1) := by
    rw [List.drop_eq_getElem_cons hk]
    have := (List.getElem?_eq_some_iff.1 h).2
    rw [this]
  rw [e]
  simp
theorem turnN_same {g : Int} {l : List Nd} {k : Nat} (h : ∀ d : Nd, turnNd g d = d) : turnN g l k = l := by
  unfold turnN
  rw [show (turnNd g) = id from funext h]
  simp
theorem turnNd_other {g : Int} (h : g < 10 ∨ 13 < g) (d : Nd) : turnNd g d = d := by
  unfold turnNd
  rw [if_neg (by omega), if_neg (by omega), if_neg (by omega), if_neg (by omega)]
theorem nodeQ_other {g s : Int} (h : s ≠ g) (d : Nd) : nodeQ s (turnNd g d) = nodeQ s d := by
  unfold turnNd
  split
  · subst g; unfold nodeQ; simp [h]
  · split
    · subst g; unfold nodeQ; simp [h]
    · split
      · subst g; unfold nodeQ; simp [h]
      · split
        · subst g; unfold nodeQ; simp [h]
        · rfl
theorem nodeQ_own (g : Int) (d : Nd) : nodeQ g (turnNd g d) = false := by
  unfold turnNd
  split
  · subst g; unfold nodeQ; simp; omega
  · split
    · subst g; unfold nodeQ; simp
    · split
      · subst g; unfold nodeQ; simp
      · split
        · subst g; unfold nodeQ; simp
        · unfold nodeQ; simp [*]
theorem someQ_other {g s : Int} (h : s ≠ g) (l : List Nd) : someQ s (l.map (turnNd g)) = someQ s l := by
  unfold someQ
  rw [List.any_map]
  congr 1
  exact funext fun d => nodeQ_other h d
theorem someQ_own (g : Int) (l : List Nd) : someQ g (l.map (turnNd g)) = false := by
  unfold someQ
  rw [List.any_map, List.any_eq_false]
  intro d _
  simp [nodeQ_own]
theorem lack_other {f g s : Int} (x : Ins) (h : s ≠ g) : lackQ f s (turn f g x) = lackQ f s x := by
  unfold lackQ
  have e1 : s = 1 → (turn f g x).name = x.name := fun e => if_neg (by omega)
  have e2 : s = 2 → (turn f g x).kind = x.kind := fun e => if_neg (by omega)
  have e3 : s = 3 → (turn f g x).metric = x.metric := fun e => if_neg (by omega)
  have e4 : s = 4 → (turn f g x).scale = x.scale := fun e => if_neg (by omega)
  have e6 : s = 6 → (turn f g x).fleet = x.fleet := fun e => if_neg (by omega)
  have en : someQ s (turn f g x).nodes = someQ s x.nodes := someQ_other h _
  split
  · rfl
  · split
    · rfl
    · split
      · rw [e1 ‹_›]
      · split
        · rw [e2 ‹_›]
        · split
          · rw [e3 ‹_›]
          · split
            · rw [e4 ‹_›]
            · split
              · rw [e6 ‹_›]
              · rw [en]
theorem lack_own {f g : Int} (x : Ins) (h1 : 1 ≤ f) (h3 : f ≤ 3) : lackQ f g (turn f g x) = false := by
  unfold lackQ
  have en : someQ g (turn f g x).nodes = false := someQ_own g _
  rw [if_neg (by omega), if_neg (by omega)]
  split
  · have e : (turn f g x).name = lilim := if_pos ‹_›
    rw [e, lilim_list]; simp
  · split
    · have e : (turn f g x).kind = f + 1 := if_pos ‹_›
      rw [e, decide_eq_false_iff_not]; omega
    · split
      · have e : (turn f g x).metric = if f = 1 then 2 else 6 := if_pos ‹_›
        rw [e, decide_eq_false_iff_not]; split <;> omega
      · split
        · have e : (turn f g x).scale = 0 := if_pos ‹_›
          rw [e, decide_eq_false_iff_not]; omega
        · split
          · have e : (turn f g x).fleet = min 1 (f - 1) := if_pos ‹_›
            rw [e, decide_eq_false_iff_not]; omega
          · rw [en, Bool.and_false, Bool.and_false]; simp
/-- All of a list's fields turned, but that at one place. -/
def turnsI (f : Int) (K : List Int) (j : Nat) (x : Ins) : Nat → Ins
  | 0 => x
  | k + 1 => if k = j then turnsI f K j x k else turn f (K.getD k 0) (turnsI f K j x k)
theorem turns_len (f : Int) (K : List Int) (j : Nat) (x : Ins) : ∀ k, (turnsI f K j x k).nodes.length = x.nodes.length
  | 0 => rfl
  | k + 1 => by
    unfold turnsI
    split
    · exact turns_len f K j x k
    · show ((turnsI f K j x k).nodes.map _).length = _
      rw [List.length_map, turns_len f K j x k]
theorem turns_matrix (f : Int) (K : List Int) (j : Nat) (x : Ins) : ∀ k, (turnsI f K j x k).matrix = x.matrix
  | 0 => rfl
  | k + 1 => by
    unfold turnsI
    split
    · exact turns_matrix f K j x k
    · exact turns_matrix f K j x k
theorem lack_turns {f : Int} {K : List Int} {j : Nat} {x : Ins} (h1 : 1 ≤ f) (h3 : f ≤ 3) (s : Int) : ∀ {k : Nat}, lackQ f s (turnsI f K j x k) = true ↔ lackQ f s x = true ∧ ∀ i, i < k → i ≠ j → K.getD i 0 ≠ s
  | 0 => ⟨fun h => ⟨h, fun i hi => by omega⟩, fun h => h.1⟩
  | k + 1 => by
    unfold turnsI
    have ih := lack_turns (K := K) (j := j) (x := x) h1 h3 s (k := k)
    split
    · rename_i e
      rw [ih]
      exact ⟨fun h => ⟨h.1, fun i hi hj => h.2 i (by omega) hj⟩, fun h => ⟨h.1, fun i hi hj => h.2 i (by omega) hj⟩⟩
    · rename_i e
      by_cases hs : s = K.getD k 0
      · rw [← hs, lack_own _ h1 h3]
        exact ⟨nofun, fun h => absurd hs.symm (h.2 k (Nat.lt_succ_self k) e)⟩
      · rw [lack_other _ hs, ih]
        refine ⟨fun h => ⟨h.1, fun i hi hj => ?_⟩, fun h => ⟨h.1, fun i hi hj => h.2 i (by omega) hj⟩⟩
        by_cases ei : i = k
        · subst ei; exact fun e => hs e.symm
        · exact h.2 i (by omega) hj
/-- All that lack turned: nothing lacks. -/
theorem turns_can {f : Int} {x : Ins} {j : Nat} (h1 : 1 ≤ f) (h3 : f ≤ 3) (hj : (lacksL f x).length ≤ j) : canB f (turnsI f (lacksL f x) j x (lacksL f x).length) = true := by
  rw [canB_iff]
  intro s a b
  rw [Bool.eq_false_iff]
  intro h
  obtain ⟨h4, h5⟩ := (lack_turns h1 h3 s).1 h
  obtain ⟨i, hi, e⟩ := List.getElem_of_mem (lacksL_mem.2 ⟨a, b, h4⟩)
  exact h5 i hi (by omega) (by simp [List.getD, hi, e])
/-- All but one turned: just that one lacks. -/
theorem turns_but {f : Int} {x : Ins} {j : Nat} (h1 : 1 ≤ f) (h3 : f ≤ 3) (hj : j < (lacksL f x).length) : lacksL f (turnsI f (lacksL f x) j x (lacksL f x).length) = [(lacksL f x).getD j 0] := by
  have hm : ∀ s, s ∈ lacksL f (turnsI f (lacksL f x) j x (lacksL f x).length) ↔ s = (lacksL f x).getD j 0 := by
    have hr := List.pairwise_iff_getElem.1 (lacksN_rises (f := f) (x := x) 13)
    have hin : (lacksL f x).getD j 0 ∈ lacksL f x := by simp [List.getD, hj]
    intro s
    rw [lacksL_mem, lack_turns h1 h3 s]
    constructor
    · rintro ⟨a, b, h4, h5⟩
      obtain ⟨i, hi, e⟩ := List.getElem_of_mem (lacksL_mem.2 ⟨a, b, h4⟩)
      by_cases ij : i = j
      · subst ij; simp [List.getD, hi, e]
      · exact absurd (by simp [List.getD, hi, e]) (h5 i hi ij)
    · rintro rfl
      obtain ⟨a, b, h4⟩ := lacksL_mem.1 hin
      refine ⟨a, b, h4, fun i hi ij => ?_⟩
      rw [show (lacksL f x).getD i 0 = (lacksL f x)[i] by simp [List.getD, hi], show (lacksL f x).getD j 0 = (lacksL f x)[j] by simp [List.getD, hj]]
      rcases Nat.lt_or_gt_of_ne ij with h | h
      · have := hr i j hi hj h; unfold lacksL; omega
      · have := hr j i hj hi h; unfold lacksL; omega
  have hp : (lacksL f (turnsI f (lacksL f x) j x (lacksL f x).length)).Pairwise (· < ·) := lacksN_rises 13
  generalize lacksL f (turnsI f (lacksL f x) j x (lacksL f x).length) = M at hm hp
  generalize (lacksL f x).getD j 0 = a at hm
  match M, hm, hp with
  | [], hm, _ => exact absurd ((hm a).2 rfl) (by simp)
  | [b], hm, _ => rw [(hm b).1 (by simp)]
  | b :: c :: M, hm, hp =>
    have h1 := (hm b).1 (by simp)
    have h2 := (hm c).1 (by simp)
    have := (List.pairwise_cons.1 hp).1 c (by simp)
    omega
#print axioms turns_but
end Go.Expr
