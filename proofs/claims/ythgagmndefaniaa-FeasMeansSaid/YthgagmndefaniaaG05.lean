/- The document's own Well. Conditions: a name of 100 bytes at most. -/
import Derived.Test.YthgagmndefaniaaG04
import Derived.Test.YthgagmndefaniaaG03
import Derived.Deep.CutRange
import Derived.Deep.CutBlock
import Derived.Test.YthgagmndefaniaaShelf
namespace Go.Proofs
open Go.RowKit Go.Shelf Go.Canon
attribute [local go_sem] Oper.semAt_some

theorem owns_dat {W : World} {base : Nat} {e : TypeId} {size : Nat} {v : Value} {n : Nat} {xs : List Value} (h : W.ownsRow base e size v n xs) : ∃ ao c, v = .slice ao n c := by
  rcases h.2 with ⟨rfl, rfl⟩ | ⟨g, cap, cur, rfl, _⟩
  · exact ⟨_, _, rfl⟩
  · exact ⟨_, _, rfl⟩
theorem well_len (N : ByteArray → Bool) (x : Ins) : wellB N x = decide ((checkL N x).length = 0) := by
  unfold wellB
  rw [decide_eq_decide]; exact List.length_eq_zero_iff.symm
set_option maxRecDepth 100000 in
theorem Try.rwell_calls (NB : ByteArray → Bool) (hNB : ∀ (s : ByteArray) (W : World), s.size ≤ 100 → Calls Try.prog 62 #[.string s] W fun e w' => e = .returned (.bool (NB s)) ∧ Below W.heap.size W w')
    (hKB : ∀ (m : Int) (W : World), Calls Try.prog 63 #[.int .i64 m] W fun e w' => e = .returned (.bool (metricB m)) ∧ Below W.heap.size W w')
    (x : Ins) (vn vm : Value) (w : World) (hx : HasIns w vn vm x) (hs : x.name.size ≤ 100) :
    Calls Try.prog 28 #[insV x vn vm] w fun e w' => e = .returned (.bool (wellB NB x)) ∧ Below w.heap.size w w' := by
  have HC : Hid (∀ W, HasIns W vn vm x → Calls Try.prog 48 #[.agg #[.string x.name, .int .i64 x.kind, .int .i64 x.metric, .int .i64 x.scale, .int .i64 x.cap, .int .i64 x.fleet, vn, vm]] W fun e w' => ∃ v', e = .returned v' ∧ w'.ownsRow (W.heap.size + 1) 101 2 v' (checkL NB x).length ((checkL NB x).flatMap ftC) ∧ Below W.heap.size W w') := fun W h => Try.rcheck_calls NB hNB hKB x vn vm W h hs
  rw [well_len]
  have HX := Lib.hid hx
  obtain ⟨an, cn, rfl, _⟩ := hx.nodes.dat
  obtain ⟨am, cm, rfl, _⟩ := hx.matrix.dat
  unfold insV
  clear hx hNB hKB
  generalize (checkL NB x).length = n at HC ⊢
  generalize x.nodes.length = L at *
  generalize x.matrix.length = M at *
  go_enter Try.func28, Try.ntmps28
  go_wp2_with (go_at_call 48; (with_reducible refine (HC.out _ (HX.out.next (below_box _ _))).mono ?_); rintro e w1 ⟨v', rfl, hr, hb1⟩; obtain ⟨ao, c, rfl⟩ := owns_dat hr)
  go_ret
  exact ⟨cret_is (nat_beq (b := 0) _ rfl), (below_box _ _).trans (hb1.mono (below_box _ _).size)⟩
end Go.Proofs
/- The document's own Norm. Conditions: lists of at most a million. -/
namespace Go.Proofs
open Go.RowKit Go.Shelf Go.Canon
attribute [local go_sem] Oper.semAt_some

theorem norm_out {x : Ins} (h : ¬(1 ≤ x.scale ∧ x.scale ≤ 6)) : norm x = x := by unfold norm; rw [if_neg h]
theorem norm_not {x : Ins} (h : whole x.nodes = false) : norm x = x := by
  unfold norm
  by_cases hs : 1 ≤ x.scale ∧ x.scale ≤ 6
  · rw [if_pos hs]
    obtain ⟨s, hs'⟩ : ∃ s, x.scale.toNat = s + 1 := ⟨x.scale.toNat - 1, by omega⟩
    have e : normN (s + 1) x.nodes = (s + 1, x.nodes) := by rw [normN, if_neg (by rw [h]; exact Bool.false_ne_true)]
    rw [hs', e]
    have : ((s + 1 : Nat) : Int) = x.scale := by omega
    dsimp only
    rw [this]
  · rw [if_neg hs]
theorem norm_step {x : Ins} {s : Int} {l : List Nd} (h1 : 1 ≤ s) (h6 : s ≤ 6) (h : whole l = true) : norm { x with scale := s - 1, nodes := shrink l } = norm { x with scale := s, nodes := l } := by
  obtain ⟨n, hn⟩ : ∃ n : Nat, s = (n : Int) + 1 := ⟨(s - 1).toNat, by omega⟩
  subst hn
  have e1 : ((n : Int) + 1).toNat = n + 1 := by omega
  have e2 : ((n : Int) + 1 - 1) = (n : Int) := by omega
  have e3 : norm { x with scale := (n : Int) + 1, nodes := l } = { x with scale := ((normN (n + 1) l).1 : Int), nodes := (normN (n + 1) l).2 } := by
    unfold norm; rw [if_pos ⟨h1, h6⟩]; dsimp only; rw [e1]
  rw [e3, e2, normN, if_pos h]
  unfold norm
  by_cases h0 : 1 ≤ (n : Int)
  · rw [if_pos (show 1 ≤ (n : Int) ∧ (n : Int) ≤ 6 from ⟨h0, by omega⟩)]
    dsimp only
    rw [Int.toNat_natCast]
  · rw [if_neg (fun h => h0 h.1)]
    have : n = 0 := by omega
    subst this
    rfl
/-- What stands in the middle of Norm: the boxes, and the nodes so far. -/
structure NrmS (w : World) (x : Ins) (vn vm : Value) (W : World) (s : Int) (v : Value) (l : List Nd) : Prop where
  row : W.ownsRow (w.heap.size + 2) 70 7 v l.length (l.flatMap ndC)
  pb : W.heap[w.heap.size]? = some (.cells #[.string x.name, .int .i64 x.kind, .int .i64 x.metric, .int .i64 s, .int .i64 x.cap, .int .i64 x.fleet, vn, vm] 40)
  rb : W.heap[w.heap.size + 1]? = some (.cells #[.string ⟨#[]⟩, .int .i64 0, .int .i64 0, .int .i64 0, .int .i64 0, .int .i64 0, .slice none 0 0, .slice none 0 0] 40)
  sz : w.heap.size + 2 ≤ W.heap.size
  below : Below w.heap.size w W
theorem two_blocks (w : World) (A B C : Obj) : (((w.alloc A).alloc B).alloc C).heap[w.heap.size]? = some A ∧ (((w.alloc A).alloc B).alloc C).heap[w.heap.size + 1]? = some B ∧ ((w.alloc A).alloc B).heap.size = w.heap.size + 2 := by
  have s1 : (w.alloc A).heap.size = w.heap.size + 1 := by show (w.heap.push _).size = _; simp
  have s2 : ((w.alloc A).alloc B).heap.size = w.heap.size + 2 := by show (Array.push _ _).size = _; rw [Array.size_push, s1]
  have B3 : Below ((w.alloc A).alloc B).heap.size ((w.alloc A).alloc B) (((w.alloc A).alloc B).alloc C) := below_box _ _
  have B2 : Below (w.alloc A).heap.size (w.alloc A) (((w.alloc A).alloc B).alloc C) := below_two _ _ _
  refine ⟨?_, ?_, s2⟩
  · rw [B2.block w.heap.size (by rw [s1]; exact Nat.lt_succ_self _), World.alloc_heap_new]
  · have h := World.alloc_heap_new (w.alloc A) B
    rw [s1] at h
    rw [B3.block (w.heap.size + 1) (by rw [s2]; omega), h]
theorem nrm_start (w : World) (x : Ins) (vn vm : Value) : NrmS w x vn vm (((w.alloc (.cells #[.string x.name, .int .i64 x.kind, .int .i64 x.metric, .int .i64 x.scale, .int .i64 x.cap, .int .i64 x.fleet, vn, vm] 40)).alloc (.cells #[.string ⟨#[]⟩, .int .i64 0, .int .i64 0, .int .i64 0, .int .i64 0, .int .i64 0, .slice none 0 0, .slice none 0 0] 40)).alloc (.cells #[] 70)) x.scale (.slice (some ⟨w.heap.size + 2, 0, none⟩) 0 0) [] := by
  obtain ⟨h1, h2, h3⟩ := two_blocks w (.cells #[.string x.name, .int .i64 x.kind, .int .i64 x.metric, .int .i64 x.scale, .int .i64 x.cap, .int .i64 x.fleet, vn, vm] 40) (.cells #[.string ⟨#[]⟩, .int .i64 0, .int .i64 0, .int .i64 0, .int .i64 0, .int .i64 0, .slice none 0 0, .slice none 0 0] 40) (.cells #[] 70)
  have ho := cowns_empty ((w.alloc (.cells #[.string x.name, .int .i64 x.kind, .int .i64 x.metric, .int .i64 x.scale, .int .i64 x.cap, .int .i64 x.fleet, vn, vm] 40)).alloc (.cells #[.string ⟨#[]⟩, .int .i64 0, .int .i64 0, .int .i64 0, .int .i64 0, .int .i64 0, .slice none 0 0, .slice none 0 0] 40)) 70 7
  rw [h3] at ho
  exact ⟨ho, h1, h2, by have := (below_box ((w.alloc (.cells #[.string x.name, .int .i64 x.kind, .int .i64 x.metric, .int .i64 x.scale, .int .i64 x.cap, .int .i64 x.fleet, vn, vm] 40)).alloc (.cells #[.string ⟨#[]⟩, .int .i64 0, .int .i64 0, .int .i64 0, .int .i64 0, .int .i64 0, .slice none 0 0, .slice none 0 0] 40)) (.cells #[] 70)).size; omega, (below_two _ _ _).alloc (by rw [h3]; omega) _⟩
theorem NrmS.p {w W : World} {x : Ins} {vn vm v : Value} {s : Int} {l : List Nd} (h : NrmS w x vn vm W s v l) (j : Nat) : W.cell? ⟨w.heap.size, j, none⟩ = (#[Value.string x.name, .int .i64 x.kind, .int .i64 x.metric, .int .i64 s, .int .i64 x.cap, .int .i64 x.fleet, vn, vm] : Array Value)[j]? := by
  unfold World.cell?; rw [h.pb]; rfl
theorem cowns_set {W : World} {base : Nat} {e : TypeId} {size : Nat} {v : Value} {k : Nat} {xs : List Value} (h : W.ownsRow base e size v k xs) {a : Addr} (ha : a.block < base) (u : Value) : (W.setCell a u).ownsRow base e size v k xs :=
  h.kept (row := some a.block) ⟨rfl, rfl, rfl, by simp [World.setCell], fun k _ hk => Below.heap_setCell _ _ _ _ (fun e => hk (by rw [e]))⟩ (.inr fun e => by have := (h.lt _ e).1; omega)
theorem NrmS.scale {w W : World} {x : Ins} {vn vm v : Value} {s : Int} {l : List Nd} (h : NrmS w x vn vm W s v l) (s' : Int) : NrmS w x vn vm (W.setCell ⟨w.heap.size, 3, none⟩ (.int .i64 s')) s' v l := by
  refine ⟨cowns_set h.row (by show w.heap.size < _; omega) _, ?_, ?_, by have := h.sz; simpa [World.setCell] using this, h.below.setCell (Nat.le_refl _) _⟩
  · have e := h.pb
    simp [World.setCell, Array.getElem?_modify, e]
  · rw [Below.heap_setCell _ _ _ _ (by show w.heap.size + 1 ≠ w.heap.size; omega)]; exact h.rb
theorem NrmS.fp {w W : World} {x : Ins} {vn vm v : Value} {s : Int} {l : List Nd} (h : NrmS w x vn vm W s v l) (j : Nat) : W.frozen? ⟨w.heap.size, j, none⟩ = false := by
  unfold World.frozen?; rw [h.pb]; rfl
/-- Whatever else grows, and whatever else is written, from the row on. -/
theorem NrmS.grow {w W W1 : World} {x : Ins} {vn vm v v' : Value} {s : Int} {l l' : List Nd} (h : NrmS w x vn vm W s v l) (hown : W1.ownsRow (w.heap.size + 2) 70 7 v' l'.length (l'.flatMap ndC)) (hB : Below (w.heap.size + 2) W W1) : NrmS w x vn vm W1 s v' l' :=
  ⟨hown, (hB.block _ (by omega)).trans h.pb, (hB.block _ (by omega)).trans h.rb, Nat.le_trans h.sz hB.size, h.below.trans (hB.mono (by omega))⟩
theorem nodes_news {W : World} {b off : Nat} {l : List Nd} (h : NodesAt W b off l) : ∀ (j : Nat) (u : Value), (l.flatMap ndC)[j]? = some u → W.cell? ((⟨b, off, none⟩ : Addr).add j) = some u := by
  intro j u hj
  have hlt : j < l.length * 7 := by rw [← flat_len (f := ndC) (s := 7) (fun _ => rfl) l]; exact (List.getElem?_eq_some_iff.1 hj).1
  have hi : j / 7 < l.length := by omega
  have hd : l[j / 7]? = some l[j / 7] := List.getElem?_eq_getElem hi
  have hc := h.2 _ _ hd
  generalize l[j / 7] = d at hd hc
  have hg := flat_get (f := ndC) (s := 7) (fun _ => rfl) hd (Nat.mod_lt j (by omega))
  rw [show j / 7 * 7 + j % 7 = j by omega, hj] at hg
  rw [Addr.add_lit]
  obtain ⟨i, hi'⟩ : ∃ i, j / 7 = i := ⟨_, rfl⟩
  have hr : j % 7 < 7 := Nat.mod_lt j (by omega)
  have ej : off + j = off + i * 7 + j % 7 := by omega
  rw [hi'] at hc
  rw [ej]
  obtain ⟨x0, x1, x2, x3, x4, x5, x6⟩ := hc
  generalize j % 7 = r at hg hr ⊢
  rcases r with _ | _ | _ | _ | _ | _ | _ | r
  · rw [show u = _ from Option.some.inj hg]; exact x0
  · rw [show u = _ from Option.some.inj hg]; exact x1
  · rw [show u = _ from Option.some.inj hg]; exact x2
  · rw [show u = _ from Option.some.inj hg]; exact x3
  · rw [show u = _ from Option.some.inj hg]; exact x4
  · rw [show u = _ from Option.some.inj hg]; exact x5
  · rw [show u = _ from Option.some.inj hg]; exact x6
  · omega
theorem nd_one (l : List Nd) : ∀ u ∈ l.flatMap ndC, u.oneCell' = true := by
  intro u hu
  obtain ⟨d, _, h⟩ := List.mem_flatMap.1 hu
  simp only [ndC, List.mem_cons, List.not_mem_nil, or_false] at h
  rcases h with rfl | rfl | rfl | rfl | rfl | rfl | rfl <;> rfl
theorem flat_set7 : ∀ {l : List Nd} {k : Nat} {d : Nd}, l[k]? = some d → ((l.flatMap ndC).set (k * 7) (.int .i64 (d.x.tdiv 10))).set (k * 7 + 1) (.int .i64 (d.y.tdiv 10)) = (l.set k (shrinkNd d)).flatMap ndC
  | [], k, d, h => by simp at h
  | a :: l, 0, d, h => by
    have e : a = d := by simpa using h
    subst e
    simp [ndC, shrinkNd]
  | a :: l, k + 1, d, h => by
    have h' : l[k]? = some d := by simpa using h
    have hl : (ndC a).length = 7 := rfl
    rw [List.flatMap_cons, List.set_cons_succ, List.flatMap_cons, ← flat_set7 h', List.set_append_right _ _ (by rw [hl]; omega), List.set_append_right _ _ (by rw [hl]; omega), hl]
    rw [show (k + 1) * 7 - 7 = k * 7 by omega, show (k + 1) * 7 + 1 - 7 = k * 7 + 1 by omega]
/-- A point in 64 bits. -/
def In64 (d : Nd) : Prop := (-9223372036854775808 ≤ d.x ∧ d.x ≤ 9223372036854775807) ∧ (-9223372036854775808 ≤ d.y ∧ d.y ≤ 9223372036854775807)
theorem wrap_ten {a : Int} (h : -9223372036854775808 ≤ a ∧ a ≤ 9223372036854775807) : wrap64 (a.tdiv 10) = a.tdiv 10 := by
  have h1 : (a.tdiv 10).natAbs = a.natAbs / 10 := Int.natAbs_tdiv a 10
  unfold wrap64
  omega
theorem in_shrink {l : List Nd} (h : ∀ d ∈ l, In64 d) : ∀ d ∈ shrink l, In64 d := by
  intro d hd
  obtain ⟨e, he, rfl⟩ := List.mem_map.1 hd
  have h1 : (e.x.tdiv 10).natAbs = e.x.natAbs / 10 := Int.natAbs_tdiv e.x 10
  have h2 : (e.y.tdiv 10).natAbs = e.y.natAbs / 10 := Int.natAbs_tdiv e.y 10
  obtain ⟨h3, h4⟩ := h e he
  unfold In64 shrinkNd
  dsimp only
  omega
/-- Shrunk as far as the k-th. -/
def mid (l : List Nd) (k : Nat) : List Nd := (l.take k).map shrinkNd ++ l.drop k
theorem mid_len (l : List Nd) {k : Nat} (h : k ≤ l.length) : (mid l k).length = l.length := by simp [mid]; omega
theorem mid_zero (l : List Nd) : mid l 0 = l := by simp [mid]
theorem mid_all (l : List Nd) : mid l l.length = shrink l := by simp [mid, shrink]
theorem mid_get {l : List Nd} {k : Nat} {d : Nd} (h : l[k]? = some d) : (mid l k)[k]? = some d := by
  have hlt := (List.getElem?_eq_some_iff.1 h).1
  unfold mid
  rw [List.getElem?_append_right (by simp; omega)]
  simp [List.getElem?_drop, show min k l.length = k by omega, h]
theorem mid_set {l : List Nd} {k : Nat} {d : Nd} (h : l[k]? = some d) : (mid l k).set k (shrinkNd d) = mid l (k + 1) := by
  have hlt := (List.getElem?_eq_some_iff.1 h).1
  have e : l.drop k = d :: l.drop (k + 1) := by rw [← List.getElem_cons_drop hlt]; rw [(List.getElem?_eq_some_iff.1 h).2]
  unfold mid
  rw [ctake_get h, List.map_append, List.set_append_right _ _ (by simp; omega), e]
  simp [show min k l.length = k by omega]
theorem owns_some {W : World} {base n c size : Nat} {e : TypeId} {ao : Option Addr} {xs : List Value} (h : W.ownsRow base e size (.slice ao n c) n xs) (hn : 0 < n) : ∃ g, ao = some ⟨g, 0, none⟩ ∧ base ≤ g := by
  rcases h.2 with ⟨h', h0⟩ | ⟨g, cap, cur, h', hb, _⟩
  · omega
  · injection h' with h1 h2 h3
    exact ⟨g, h1, hb⟩
theorem all_take {l : List Nd} {k : Nat} {d : Nd} {b : Bool} (h : l[k]? = some d) (hb : (l.take k).all wholeNd = b) : (l.take (k + 1)).all wholeNd = (b && wholeNd d) := by
  rw [ctake_get h, List.all_append, hb]; simp
theorem NrmS.six {w W : World} {x : Ins} {vn vm v : Value} {s : Int} {l : List Nd} (h : NrmS w x vn vm W s v l) (u : Value) : NrmS w x u vm (W.setCell ⟨w.heap.size, 6, none⟩ u) s v l := by
  refine ⟨cowns_set h.row (by show w.heap.size < _; omega) _, ?_, ?_, by have := h.sz; simpa [World.setCell] using this, h.below.setCell (Nat.le_refl _) _⟩
  · have e := h.pb
    simp [World.setCell, Array.getElem?_modify, e]
  · rw [Below.heap_setCell _ _ _ _ (by show w.heap.size + 1 ≠ w.heap.size; omega)]; exact h.rb
theorem NrmS.seven {w W : World} {x : Ins} {vn vm v : Value} {s : Int} {l : List Nd} (h : NrmS w x vn vm W s v l) (u : Value) : NrmS w x vn u (W.setCell ⟨w.heap.size, 7, none⟩ u) s v l := by
  refine ⟨cowns_set h.row (by show w.heap.size < _; omega) _, ?_, ?_, by have := h.sz; simpa [World.setCell] using this, h.below.setCell (Nat.le_refl _) _⟩
  · have e := h.pb
    simp [World.setCell, Array.getElem?_modify, e]
  · rw [Below.heap_setCell _ _ _ _ (by show w.heap.size + 1 ≠ w.heap.size; omega)]; exact h.rb
theorem NrmS.next {w W W1 : World} {x : Ins} {vn vm v : Value} {s : Int} {l : List Nd} (h : NrmS w x vn vm W s v l) (hB : Below W.heap.size W W1) : NrmS w x vn vm W1 s v l :=
  h.grow (h.row.kept (row := none) ⟨hB.os, hB.tape, hB.output, hB.size, fun k hk _ => hB.block k hk⟩ (by cases v.ownBlock <;> simp)) (hB.mono h.sz)
theorem owns_low {w : World} {base base' : Nat} {e : TypeId} {size : Nat} {v : Value} {k : Nat} {xs : List Value} (h : w.ownsRow base e size v k xs) (hb : base' ≤ base) : w.ownsRow base' e size v k xs := by
  refine ⟨h.1, h.2.imp id ?_⟩
  rintro ⟨g, cap, cur, h1, h2, h3⟩
  exact ⟨g, cap, cur, h1, Nat.le_trans hb h2, h3⟩
theorem int_one (l : List Int) : ∀ u ∈ l.map fun y => Value.int .i64 y, u.oneCell' = true := by
  intro u hu
  obtain ⟨y, _, rfl⟩ := List.mem_map.1 hu
  rfl
theorem Try.info3 : (Try.prog.info? 3).map (fun i => (i.zero, i.size, i.bytes)) = some (some (.int .i64 0), 1, 8) := by kernel_rfl
end Go.Proofs
/- slices.Equal at nodes and at numbers, and the program's Same. Conditions: lists of at most a million. -/
namespace Go.Proofs
open Go.RowKit Go.Shelf Go.Canon
attribute [local go_sem] Oper.semAt_some

theorem nums_getD {W : World} {b off : Nat} {l : List Int} (h : NumsAt W b off l) : ∀ j, j < l.length → W.cell? ⟨b, off + j, none⟩ = some (.int .i64 (l.getD j 0)) := fun j hj => by
  have e : l[j]? = some (l.getD j 0) := by simp [List.getD, hj]
  exact h.2 j _ e
theorem ins_dec (x y : Ins) : decide (x = y) = (decide (x.name = y.name) && decide (x.kind = y.kind) && decide (x.metric = y.metric) && decide (x.scale = y.scale) && decide (x.cap = y.cap) && decide (x.fleet = y.fleet) && decide (x.nodes = y.nodes) && decide (x.matrix = y.matrix)) := by
  obtain ⟨n1, k1, m1, s1, c1, f1, l1, t1⟩ := x
  obtain ⟨n2, k2, m2, s2, c2, f2, l2, t2⟩ := y
  rw [Bool.eq_iff_iff]
  simp [and_assoc]

end Go.Proofs
/- slices.Clone at nodes and at numbers, and allTens. Conditions: lists of at most a million. -/
namespace Go.Proofs
open Go.RowKit Go.Shelf Go.Canon
attribute [local go_sem] Oper.semAt_some

theorem Try.info55 : (Try.prog.info? 55).map (fun i => (i.zero, i.size, i.bytes)) = some (some (.agg #[.int .i64 0, .int .i64 0, .int .i64 0, .int .i64 0, .int .i64 0, .int .i64 0, .int .i64 0]), 7, 56) := by kernel_rfl
theorem owns_nil (W : World) (base : Nat) (e : TypeId) (size : Nat) : W.ownsRow base e size (.slice none 0 0) 0 [] := ⟨by simp, .inl ⟨rfl, rfl⟩⟩
set_option maxRecDepth 100000 in
set_option maxHeartbeats 1000000 in
theorem Try.cloneNodes_calls (v : Value) (l : List Nd) (w : World) (hv : HasNodes w v l) (h1 : l.length ≤ 1000000) :
    Calls Try.prog 46 #[v] w fun e w' => ∃ v', e = .returned v' ∧ w'.ownsRow w.heap.size 55 7 v' l.length (l.flatMap ndC) ∧ Below w.heap.size w w' := by
  obtain ⟨i0, hi, hz0, hz1, hz2⟩ := info_parts Try.info55
  have HI := Lib.hid hi
  clear hi
  have q22 : ∀ (w : World) (a : Option Addr) (n c n' c' : Nat), (binOp .eql 22 (.slice a n c) (.slice none n' c')).run Try.prog w = .ok (.bool a.isNone) w := fun w a n c n' c' => Lib.run_eql_slice_nil w _ _ a n c n' c' Try.underlying22
  rcases hv with ⟨rfl, ao, c, rfl⟩ | ⟨b, off, c, rfl, hlc, hcm, hd⟩
  · cases ao with
    | none =>
      go_enter Try.func46, Try.ntmps46
      go_wp2
      go_ret
      exact ⟨_, rfl, owns_nil _ _ _ _, Below.refl _ _⟩
    | some ad =>
      go_enter Try.func46, Try.ntmps46
      go_wp2
      go_ret
      exact ⟨_, rfl, cowns_empty _ _ _, below_box _ _⟩
  · have hml : 0 + l.length ≤ maxLen := by unfold maxLen; omega
    have hml2 : (0 + l.length) * 56 ≤ 140737488355328 := by omega
    have HW : Hid (∀ W, Below w.heap.size w W → ∀ (j : Nat) (u : Value), (l.flatMap ndC)[j]? = some u → W.cell? ((⟨b, off, none⟩ : Addr).add j) = some u) := fun W hW => nodes_news (hd.below hW hd.1)
    have HF : Hid ((l.flatMap ndC).length = l.length * 7) := flat_len (f := ndC) (s := 7) (fun _ => rfl) _
    clear hd
    generalize l.length = L at *
    go_enter Try.func46, Try.ntmps46
    go_wp2_with (at_builtin; refine wpList_append_own _ rfl _ _ 22 rfl w.heap.size 55 i0 (.agg #[.int .i64 0, .int .i64 0, .int .i64 0, .int .i64 0, .int .i64 0, .int .i64 0, .int .i64 0]) 7 56 Try.underlying22 HI.out hz0 hz1 hz2 rfl (by decide) _ 0 [] rfl (cowns_empty w 55 7) ⟨b, off, none⟩ L c (l.flatMap ndC) rfl HF.out (HW.out _ (below_box _ _)) (nd_one _) hml hml2 (below_box _ _).size ?_; intro v' w1 hown' hgrow _; have hB := Lib.hid ((below_box w _).grown hgrow (below_box _ _).size (fun k e => ((cowns_empty w 55 7).lt k e).1)); have hR := Lib.hid hown'; obtain ⟨ao, vc, rfl⟩ := owns_dat hown')
    go_ret
    exact ⟨_, rfl, by have := hR.out; rwa [Nat.zero_add] at this, hB.out⟩
theorem Try.cloneInts_calls (v : Value) (l : List Int) (w : World) (hv : HasNums w v l) (h1 : l.length ≤ 1000000) :
    Calls Try.prog 45 #[v] w fun e w' => ∃ v', e = .returned v' ∧ w'.ownsRow w.heap.size 3 1 v' l.length (l.map fun y => .int .i64 y) ∧ Below w.heap.size w w' := by
  rcases hv with ⟨rfl, ao, c, rfl⟩ | ⟨b, off, c, rfl, hlc, hcm, hd⟩
  · cases ao with
    | none =>
      refine (Try.slices_Clone_int_nil 0 c w).mono ?_
      rintro e w' ⟨rfl, hw⟩
      obtain rfl : w = w' := hw.symm
      exact ⟨_, rfl, owns_nil _ _ _ _, Below.refl _ _⟩
    | some ad =>
      refine (Try.slices_Clone_int_zero ad c w).mono ?_
      rintro e w' ⟨v', rfl, h1, _, h2⟩
      exact ⟨_, rfl, h1, h2⟩
  · refine (Try.slices_Clone_int b off l.length c l w (Nat.le_refl _) (by omega) (nums_getD hd)).mono ?_
    rintro e w' ⟨v', rfl, h1, _, h2⟩
    rw [List.take_length] at h1
    exact ⟨_, rfl, h1, h2⟩
set_option maxRecDepth 100000 in
set_option maxHeartbeats 1000000 in
theorem Try.allTens_calls (v : Value) (l : List Nd) (w : World) (hv : HasNodes w v l) (h1 : l.length ≤ 1000000) :
    Calls Try.prog 47 #[v] w fun e w' => e = .returned (.bool (whole l)) ∧ Below w.heap.size w w' := by
  obtain ⟨an, cn, rfl, hx⟩ := hv.dat
  have HX := Lib.hid hx
  obtain ⟨n, hn⟩ : ∃ n, l.length = n := ⟨_, rfl⟩
  rw [hn] at h1 ⊢
  have HN := Lib.hid hn
  unfold whole
  clear hx hv hn
  go_enter Try.func47, Try.ntmps47
  go_wp2
  go_loopw [7] (fun i wr => ∃ k : Nat, k ≤ n ∧ i = .int .i64 (k : Int) ∧ Hid ((l.take k).all wholeNd = true) ∧ Below w.heap.size w wr) (fun i _ => n - (intOf i).toNat)
  case atStart => exact ⟨0, Nat.zero_le _, rfl, rfl, Below.refl _ _⟩
  case round =>
    obtain ⟨k, hk, rfl, hT, hB⟩ := hrel
    by_cases hlt : k < n
    · rcases HX.out with h0 | ⟨b, off, rfl, hd⟩
      · have := HN.out; rw [h0] at this; simp at this; omega
      obtain ⟨x, hx⟩ : ∃ x, l[k]? = some x := ⟨_, List.getElem?_eq_getElem (by have := HN.out; omega)⟩
      obtain ⟨x0, x1, x2, x3, x4, x5, x6⟩ := (hd.2 k x hx).below hB hd.1
      have hki : (k : Int) < (n : Int) := by omega
      have HA := Lib.hid (all_take hx hT.out)
      have HM := Lib.hid (List.mem_of_getElem? hx)
      clear hd hx hT
      cases hw : wholeNd x with
      | true =>
        have hw' := hw
        simp only [wholeNd, Bool.and_eq_true, decide_eq_true_eq] at hw'
        have kx : (x.x.tmod 10 != 0) = false := by simp [hw'.1]
        have ky : (x.y.tmod 10 != 0) = false := by simp [hw'.2]
        have HT : Hid ((l.take (k + 1)).all wholeNd = true) := HA.out.trans (by rw [hw]; rfl)
        clear hw hw'
        go_wp2
        go_roundw
        case rel => exact ⟨k + 1, by omega, by go_num, HT, hB.alloc hB.size _⟩
        case measure => simp [intOf]; omega
      | false =>
        have HF : Hid (l.all wholeNd = false) := by
          unfold Hid
          rw [List.all_eq_false]
          exact ⟨x, HM.out, by rw [hw]; simp⟩
        by_cases hx0 : x.x.tmod 10 = 0
        · have kx : (x.x.tmod 10 != 0) = false := by simp [hx0]
          have ky : (x.y.tmod 10 != 0) = true := by
            simp only [wholeNd, hx0, decide_true, Bool.true_and, decide_eq_false_iff_not] at hw
            exact bne_iff_ne.2 hw
          clear hw hx0
          go_wp2
          go_ret
          exact ⟨cret_is HF.out.symm, hB.alloc hB.size _⟩
        · have kx : (x.x.tmod 10 != 0) = true := bne_iff_ne.2 hx0
          clear hw hx0
          go_wp2
          go_ret
          exact ⟨cret_is HF.out.symm, hB.alloc hB.size _⟩
    · obtain rfl : k = n := by omega
      have HF : Hid (l.all wholeNd = true) := by
        have e := hT.out
        rwa [List.take_of_length_le (Nat.le_of_eq HN.out)] at e
      go_wp2
      go_ret
      exact ⟨cret_is HF.out.symm, hB⟩
end Go.Proofs
