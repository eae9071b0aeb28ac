/- The document's own Well. Conditions: a name of 100 bytes at most. -/
import Derived.Test.YtebkmcafahkdbaaG03
import Derived.Test.YtebkmcafahkdbaaG02
import Derived.Deep.CutRange
import Derived.Deep.CutBlock
import Derived.Test.YtebkmcafahkdbaaShelf
import Derived.Deep.RegionWith
import Derived.Test.YtebkmcafahkdbaaG01
import Derived.Shelf.Abstract
import Derived.Shelf.RegionOpen
import Derived.WalkKit
import Derived.LoopNIn
import Derived.LoopIn
import Derived.Lib.OthersKept
import Derived.Lib.Hide
import Derived.Test.YtebkmcafahkdbaaProg
import Derived.Laws.AppendOwn
import Derived.Laws.OwnMore
import Derived.Laws.MakeOwn
import Derived.Lib.QuietBelow
import Derived.RangeFuncRecord
import Derived.Deep.QuietTactic
import Derived.BigQuiet
import Derived.Lib.ItoaNum
import Derived.RowKit
namespace Go.Proofs
open Go.RowKit Go.Shelf Go.Canon
attribute [local go_sem] Oper.semAt_some

theorem owns_dat {W : World} {base : Nat} {e : TypeId} {size : Nat} {v : Value} {n : Nat} {xs : List Value} (h : W.ownsRow base e size v n xs) : ∃ ao c, v = .slice ao n c := by
  rcases h.2 with ⟨rfl, rfl⟩ | ⟨g, cap, cur, rfl, _⟩
  · exact ⟨_, _, rfl⟩
  · exact ⟨_, _, rfl⟩
theorem well_len (N : ByteArray → Bool) (x : Ins) : wellB N x = decide ((checkL N x).length = 0) := by
  unfold wellB
  rw [decide_eq_decide]; exact List.length_eq_zero_iff.symm
set_option maxRecDepth 100000 in
theorem Try.rwell_calls (NB : ByteArray → Bool) (hNB : ∀ (s : ByteArray) (W : World), s.size ≤ 100 → Calls Try.prog 47 #[.string s] W fun e w' => e = .returned (.bool (NB s)) ∧ Below W.heap.size W w')
    (hKB : ∀ (m : Int) (W : World), Calls Try.prog 48 #[.int .i64 m] W fun e w' => e = .returned (.bool (metricB m)) ∧ Below W.heap.size W w')
    (x : Ins) (vn vm : Value) (w : World) (hx : HasIns w vn vm x) (hs : x.name.size ≤ 100) :
    Calls Try.prog 14 #[insV x vn vm] w fun e w' => e = .returned (.bool (wellB NB x)) ∧ Below w.heap.size w w' := by
  have HC : Hid (∀ W, HasIns W vn vm x → Calls Try.prog 30 #[.agg #[.string x.name, .int .i64 x.kind, .int .i64 x.metric, .int .i64 x.scale, .int .i64 x.cap, .int .i64 x.fleet, vn, vm]] W fun e w' => ∃ v', e = .returned v' ∧ w'.ownsRow (W.heap.size + 1) 61 2 v' (checkL NB x).length ((checkL NB x).flatMap ftC) ∧ Below W.heap.size W w') := fun W h => Try.rcheck_calls NB hNB hKB x vn vm W h hs
  rw [well_len]
  have HX := Lib.hid hx
  obtain ⟨an, cn, rfl, _⟩ := hx.nodes.dat
  obtain ⟨am, cm, rfl, _⟩ := hx.matrix.dat
  unfold insV
  clear hx hNB hKB
  generalize (checkL NB x).length = n at HC ⊢
  generalize x.nodes.length = L at *
  generalize x.matrix.length = M at *
  go_enter Try.func14, Try.ntmps14
  go_wp2_with (go_at_call 30; (with_reducible refine (HC.out _ (HX.out.next (below_box _ _))).mono ?_); rintro e w1 ⟨v', rfl, hr, hb1⟩; obtain ⟨ao, c, rfl⟩ := owns_dat hr)
  go_ret
  exact ⟨cret_is (nat_beq (b := 0) _ rfl), (below_box _ _).trans (hb1.mono (below_box _ _).size)⟩
end Go.Proofs
/- The document's own Norm. Conditions: lists of at most a million. -/
namespace Go.Proofs
open Go.RowKit Go.Shelf Go.Canon
attribute [local go_sem] Oper.semAt_some

theorem norm_out {x : Ins} (h : ¬(1 ≤ x.scale ∧ x.scale ≤ 6)) : norm x = x := by unfold norm; rw [if_neg h]
theorem norm_not {x : Ins} (h : whole x.nodes = false) : norm x = x := by
  unfold norm
  by_cases hs : 1 ≤ x.scale ∧ x.scale ≤ 6
  · rw [if_pos hs]
    obtain ⟨s, hs'⟩ : ∃ s, x.scale.toNat = s + 1 := ⟨x.scale.toNat - 1, by omega⟩
    have e : normN (s + 1) x.nodes = (s + 1, x.nodes) := by rw [normN, if_neg (by rw [h]; exact Bool.false_ne_true)]
    rw [hs', e]
    have : ((s + 1 : Nat) : Int) = x.scale := by omega
    dsimp only
    rw [this]
  · rw [if_neg hs]
theorem norm_step {x : Ins} {s : Int} {l : List Nd} (h1 : 1 ≤ s) (h6 : s ≤ 6) (h : whole l = true) : norm { x with scale := s - 1, nodes := shrink l } = norm { x with scale := s, nodes := l } := by
  obtain ⟨n, hn⟩ : ∃ n : Nat, s = (n : Int) + 1 := ⟨(s - 1).toNat, by omega⟩
  subst hn
  have e1 : ((n : Int) + 1).toNat = n + 1 := by omega
  have e2 : ((n : Int) + 1 - 1) = (n : Int) := by omega
  have e3 : norm { x with scale := (n : Int) + 1, nodes := l } = { x with scale := ((normN (n + 1) l).1 : Int), nodes := (normN (n + 1) l).2 } := by
    unfold norm; rw [if_pos ⟨h1, h6⟩]; dsimp only; rw [e1]
  rw [e3, e2, normN, if_pos h]
  unfold norm
  by_cases h0 : 1 ≤ (n : Int)
  · rw [if_pos (show 1 ≤ (n : Int) ∧ (n : Int) ≤ 6 from ⟨h0, by omega⟩)]
    dsimp only
    rw [Int.toNat_natCast]
  · rw [if_neg (fun h => h0 h.1)]
    have : n = 0 := by omega
    subst this
    rfl
/-- What stands in the middle of Norm: the boxes, and the nodes so far. -/
structure NrmS (w : World) (x : Ins) (vn vm : Value) (W : World) (s : Int) (v : Value) (l : List Nd) : Prop where
  row : W.ownsRow (w.heap.size + 2) 48 7 v l.length (l.flatMap ndC)
  pb : W.heap[w.heap.size]? = some (.cells #[.string x.name, .int .i64 x.kind, .int .i64 x.metric, .int .i64 s, .int .i64 x.cap, .int .i64 x.fleet, vn, vm] 33)
  rb : W.heap[w.heap.size + 1]? = some (.cells #[.string ⟨#[]⟩, .int .i64 0, .int .i64 0, .int .i64 0, .int .i64 0, .int .i64 0, .slice none 0 0, .slice none 0 0] 33)
  sz : w.heap.size + 2 ≤ W.heap.size
  below : Below w.heap.size w W
theorem two_blocks (w : World) (A B C : Obj) : (((w.alloc A).alloc B).alloc C).heap[w.heap.size]? = some A ∧ (((w.alloc A).alloc B).alloc C).heap[w.heap.size + 1]? = some B ∧ ((w.alloc A).alloc B).heap.size = w.heap.size + 2 := by
  have s1 : (w.alloc A).heap.size = w.heap.size + 1 := by show (w.heap.push _).size = _; simp
  have s2 : ((w.alloc A).alloc B).heap.size = w.heap.size + 2 := by show (Array.push _ _).size = _; rw [Array.size_push, s1]
  have B3 : Below ((w.alloc A).alloc B).heap.size ((w.alloc A).alloc B) (((w.alloc A).alloc B).alloc C) := below_box _ _
  have B2 : Below (w.alloc A).heap.size (w.alloc A) (((w.alloc A).alloc B).alloc C) := below_two _ _ _
  refine ⟨?_, ?_, s2⟩
  · rw [B2.block w.heap.size (by rw [s1]; exact Nat.lt_succ_self _), World.alloc_heap_new]
  · have h := World.alloc_heap_new (w.alloc A) B
    rw [s1] at h
    rw [B3.block (w.heap.size + 1) (by rw [s2]; omega), h]
theorem nrm_start (w : World) (x : Ins) (vn vm : Value) : NrmS w x vn vm (((w.alloc (.cells #[.string x.name, .int .i64 x.kind, .int .i64 x.metric, .int .i64 x.scale, .int .i64 x.cap, .int .i64 x.fleet, vn, vm] 33)).alloc (.cells #[.string ⟨#[]⟩, .int .i64 0, .int .i64 0, .int .i64 0, .int .i64 0, .int .i64 0, .slice none 0 0, .slice none 0 0] 33)).alloc (.cells #[] 48)) x.scale (.slice (some ⟨w.heap.size + 2, 0, none⟩) 0 0) [] := by
  obtain ⟨h1, h2, h3⟩ := two_blocks w (.cells #[.string x.name, .int .i64 x.kind, .int .i64 x.metric, .int .i64 x.scale, .int .i64 x.cap, .int .i64 x.fleet, vn, vm] 33) (.cells #[.string ⟨#[]⟩, .int .i64 0, .int .i64 0, .int .i64 0, .int .i64 0, .int .i64 0, .slice none 0 0, .slice none 0 0] 33) (.cells #[] 48)
  have ho := cowns_empty ((w.alloc (.cells #[.string x.name, .int .i64 x.kind, .int .i64 x.metric, .int .i64 x.scale, .int .i64 x.cap, .int .i64 x.fleet, vn, vm] 33)).alloc (.cells #[.string ⟨#[]⟩, .int .i64 0, .int .i64 0, .int .i64 0, .int .i64 0, .int .i64 0, .slice none 0 0, .slice none 0 0] 33)) 48 7
  rw [h3] at ho
  exact ⟨ho, h1, h2, by have := (below_box ((w.alloc (.cells #[.string x.name, .int .i64 x.kind, .int .i64 x.metric, .int .i64 x.scale, .int .i64 x.cap, .int .i64 x.fleet, vn, vm] 33)).alloc (.cells #[.string ⟨#[]⟩, .int .i64 0, .int .i64 0, .int .i64 0, .int .i64 0, .int .i64 0, .slice none 0 0, .slice none 0 0] 33)) (.cells #[] 48)).size; omega, (below_two _ _ _).alloc (by rw [h3]; omega) _⟩
theorem NrmS.p {w W : World} {x : Ins} {vn vm v : Value} {s : Int} {l : List Nd} (h : NrmS w x vn vm W s v l) (j : Nat) : W.cell? ⟨w.heap.size, j, none⟩ = (#[Value.string x.name, .int .i64 x.kind, .int .i64 x.metric, .int .i64 s, .int .i64 x.cap, .int .i64 x.fleet, vn, vm] : Array Value)[j]? := by
  unfold World.cell?; rw [h.pb]; rfl
theorem cowns_set {W : World} {base : Nat} {e : TypeId} {size : Nat} {v : Value} {k : Nat} {xs : List Value} (h : W.ownsRow base e size v k xs) {a : Addr} (ha : a.block < base) (u : Value) : (W.setCell a u).ownsRow base e size v k xs :=
  h.kept (row := some a.block) ⟨rfl, rfl, rfl, by simp [World.setCell], fun k _ hk => Below.heap_setCell _ _ _ _ (fun e => hk (by rw [e]))⟩ (.inr fun e => by have := (h.lt _ e).1; omega)
theorem NrmS.scale {w W : World} {x : Ins} {vn vm v : Value} {s : Int} {l : List Nd} (h : NrmS w x vn vm W s v l) (s' : Int) : NrmS w x vn vm (W.setCell ⟨w.heap.size, 3, none⟩ (.int .i64 s')) s' v l := by
  refine ⟨cowns_set h.row (by show w.heap.size < _; omega) _, ?_, ?_, by have := h.sz; simpa [World.setCell] using this, h.below.setCell (Nat.le_refl _) _⟩
  · have e := h.pb
    simp [World.setCell, Array.getElem?_modify, e]
  · rw [Below.heap_setCell _ _ _ _ (by show w.heap.size + 1 ≠ w.heap.size; omega)]; exact h.rb
theorem NrmS.fp {w W : World} {x : Ins} {vn vm v : Value} {s : Int} {l : List Nd} (h : NrmS w x vn vm W s v l) (j : Nat) : W.frozen? ⟨w.heap.size, j, none⟩ = false := by
  unfold World.frozen?; rw [h.pb]; rfl
/-- Whatever else grows, and whatever else is written, from the row on. -/
theorem NrmS.grow {w W W1 : World} {x : Ins} {vn vm v v' : Value} {s : Int} {l l' : List Nd} (h : NrmS w x vn vm W s v l) (hown : W1.ownsRow (w.heap.size + 2) 48 7 v' l'.length (l'.flatMap ndC)) (hB : Below (w.heap.size + 2) W W1) : NrmS w x vn vm W1 s v' l' :=
  ⟨hown, (hB.block _ (by omega)).trans h.pb, (hB.block _ (by omega)).trans h.rb, Nat.le_trans h.sz hB.size, h.below.trans (hB.mono (by omega))⟩
theorem nodes_news {W : World} {b off : Nat} {l : List Nd} (h : NodesAt W b off l) : ∀ (j : Nat) (u : Value), (l.flatMap ndC)[j]? = some u → W.cell? ((⟨b, off, none⟩ : Addr).add j) = some u := by
  intro j u hj
  have hlt : j < l.length * 7 := by rw [← flat_len (f := ndC) (s := 7) (fun _ => rfl) l]; exact (List.getElem?_eq_some_iff.1 hj).1
  have hi : j / 7 < l.length := by omega
  have hd : l[j / 7]? = some l[j / 7] := List.getElem?_eq_getElem hi
  have hc := h.2 _ _ hd
  generalize l[j / 7] = d at hd hc
  have hg := flat_get (f := ndC) (s := 7) (fun _ => rfl) hd (Nat.mod_lt j (by omega))
  rw [show j / 7 * 7 + j % 7 = j by omega, hj] at hg
  rw [Addr.add_lit]
  obtain ⟨i, hi'⟩ : ∃ i, j / 7 = i := ⟨_, rfl⟩
  have hr : j % 7 < 7 := Nat.mod_lt j (by omega)
  have ej : off + j = off + i * 7 + j % 7 := by omega
  rw [hi'] at hc
  rw [ej]
  obtain ⟨x0, x1, x2, x3, x4, x5, x6⟩ := hc
  generalize j % 7 = r at hg hr ⊢
  rcases r with _ | _ | _ | _ | _ | _ | _ | r
  · rw [show u = _ from Option.some.inj hg]; exact x0
  · rw [show u = _ from Option.some.inj hg]; exact x1
  · rw [show u = _ from Option.some.inj hg]; exact x2
  · rw [show u = _ from Option.some.inj hg]; exact x3
  · rw [show u = _ from Option.some.inj hg]; exact x4
  · rw [show u = _ from Option.some.inj hg]; exact x5
  · rw [show u = _ from Option.some.inj hg]; exact x6
  · omega
theorem nd_one (l : List Nd) : ∀ u ∈ l.flatMap ndC, u.oneCell' = true := by
  intro u hu
  obtain ⟨d, _, h⟩ := List.mem_flatMap.1 hu
  simp only [ndC, List.mem_cons, List.not_mem_nil, or_false] at h
  rcases h with rfl | rfl | rfl | rfl | rfl | rfl | rfl <;> rfl
theorem flat_set7 : ∀ {l : List Nd} {k : Nat} {d : Nd}, l[k]? = some d → ((l.flatMap ndC).set (k * 7) (.int .i64 (d.x.tdiv 10))).set (k * 7 + 1) (.int .i64 (d.y.tdiv 10)) = (l.set k (shrinkNd d)).flatMap ndC
  | [], k, d, h => by simp at h
  | a :: l, 0, d, h => by
    have e : a = d := by simpa using h
    subst e
    simp [ndC, shrinkNd]
  | a :: l, k + 1, d, h => by
    have h' : l[k]? = some d := by simpa using h
    have hl : (ndC a).length = 7 := rfl
    rw [List.flatMap_cons, List.set_cons_succ, List.flatMap_cons, ← flat_set7 h', List.set_append_right _ _ (by rw [hl]; omega), List.set_append_right _ _ (by rw [hl]; omega), hl]
    rw [show (k + 1) * 7 - 7 = k * 7 by omega, show (k + 1) * 7 + 1 - 7 = k * 7 + 1 by omega]
/-- A point in 64 bits. -/
def In64 (d : Nd) : Prop := (-9223372036854775808 ≤ d.x ∧ d.x ≤ 9223372036854775807) ∧ (-9223372036854775808 ≤ d.y ∧ d.y ≤ 9223372036854775807)
theorem wrap_ten {a : Int} (h : -9223372036854775808 ≤ a ∧ a ≤ 9223372036854775807) : wrap64 (a.tdiv 10) = a.tdiv 10 := by
  have h1 : (a.tdiv 10).natAbs = a.natAbs / 10 := Int.natAbs_tdiv a 10
  unfold wrap64
  omega
theorem in_shrink {l : List Nd} (h : ∀ d ∈ l, In64 d) : ∀ d ∈ shrink l, In64 d := by
  intro d hd
  obtain ⟨e, he, rfl⟩ := List.mem_map.1 hd
  have h1 : (e.x.tdiv 10).natAbs = e.x.natAbs / 10 := Int.natAbs_tdiv e.x 10
  have h2 : (e.y.tdiv 10).natAbs = e.y.natAbs / 10 := Int.natAbs_tdiv e.y 10
  obtain ⟨h3, h4⟩ := h e he
  unfold In64 shrinkNd
  dsimp only
  omega
/-- Shrunk as far as the k-th. -/
def mid (l : List Nd) (k : Nat) : List Nd := (l.take k).map shrinkNd ++ l.drop k
theorem mid_len (l : List Nd) {k : Nat} (h : k ≤ l.length) : (mid l k).length = l.length := by simp [mid]; omega
theorem mid_zero (l : List Nd) : mid l 0 = l := by simp [mid]
theorem mid_all (l : List Nd) : mid l l.length = shrink l := by simp [mid, shrink]
theorem mid_get {l : List Nd} {k : Nat} {d : Nd} (h : l[k]? = some d) : (mid l k)[k]? = some d := by
  have hlt := (List.getElem?_eq_some_iff.1 h).1
  unfold mid
  rw [List.getElem?_append_right (by simp; omega)]
  simp [List.getElem?_drop, show min k l.length = k by omega, h]
theorem mid_set {l : List Nd} {k : Nat} {d : Nd} (h : l[k]? = some d) : (mid l k).set k (shrinkNd d) = mid l (k + 1) := by
  have hlt := (List.getElem?_eq_some_iff.1 h).1
  have e : l.drop k = d :: l.drop (k + 1) := by rw [← List.getElem_cons_drop hlt]; rw [(List.getElem?_eq_some_iff.1 h).2]
  unfold mid
  rw [ctake_get h, List.map_append, List.set_append_right _ _ (by simp; omega), e]
  simp [show min k l.length = k by omega]
theorem owns_some {W : World} {base n c size : Nat} {e : TypeId} {ao : Option Addr} {xs : List Value} (h : W.ownsRow base e size (.slice ao n c) n xs) (hn : 0 < n) : ∃ g, ao = some ⟨g, 0, none⟩ ∧ base ≤ g := by
  rcases h.2 with ⟨h', h0⟩ | ⟨g, cap, cur, h', hb, _⟩
  · omega
  · injection h' with h1 h2 h3
    exact ⟨g, h1, hb⟩
theorem all_take {l : List Nd} {k : Nat} {d : Nd} {b : Bool} (h : l[k]? = some d) (hb : (l.take k).all wholeNd = b) : (l.take (k + 1)).all wholeNd = (b && wholeNd d) := by
  rw [ctake_get h, List.all_append, hb]; simp
theorem NrmS.six {w W : World} {x : Ins} {vn vm v : Value} {s : Int} {l : List Nd} (h : NrmS w x vn vm W s v l) (u : Value) : NrmS w x u vm (W.setCell ⟨w.heap.size, 6, none⟩ u) s v l := by
  refine ⟨cowns_set h.row (by show w.heap.size < _; omega) _, ?_, ?_, by have := h.sz; simpa [World.setCell] using this, h.below.setCell (Nat.le_refl _) _⟩
  · have e := h.pb
    simp [World.setCell, Array.getElem?_modify, e]
  · rw [Below.heap_setCell _ _ _ _ (by show w.heap.size + 1 ≠ w.heap.size; omega)]; exact h.rb
theorem NrmS.seven {w W : World} {x : Ins} {vn vm v : Value} {s : Int} {l : List Nd} (h : NrmS w x vn vm W s v l) (u : Value) : NrmS w x vn u (W.setCell ⟨w.heap.size, 7, none⟩ u) s v l := by
  refine ⟨cowns_set h.row (by show w.heap.size < _; omega) _, ?_, ?_, by have := h.sz; simpa [World.setCell] using this, h.below.setCell (Nat.le_refl _) _⟩
  · have e := h.pb
    simp [World.setCell, Array.getElem?_modify, e]
  · rw [Below.heap_setCell _ _ _ _ (by show w.heap.size + 1 ≠ w.heap.size; omega)]; exact h.rb
theorem NrmS.next {w W W1 : World} {x : Ins} {vn vm v : Value} {s : Int} {l : List Nd} (h : NrmS w x vn vm W s v l) (hB : Below W.heap.size W W1) : NrmS w x vn vm W1 s v l :=
  h.grow (h.row.kept (row := none) ⟨hB.os, hB.tape, hB.output, hB.size, fun k hk _ => hB.block k hk⟩ (by cases v.ownBlock <;> simp)) (hB.mono h.sz)
theorem owns_low {w : World} {base base' : Nat} {e : TypeId} {size : Nat} {v : Value} {k : Nat} {xs : List Value} (h : w.ownsRow base e size v k xs) (hb : base' ≤ base) : w.ownsRow base' e size v k xs := by
  refine ⟨h.1, h.2.imp id ?_⟩
  rintro ⟨g, cap, cur, h1, h2, h3⟩
  exact ⟨g, cap, cur, h1, Nat.le_trans hb h2, h3⟩
theorem int_one (l : List Int) : ∀ u ∈ l.map fun y => Value.int .i64 y, u.oneCell' = true := by
  intro u hu
  obtain ⟨y, _, rfl⟩ := List.mem_map.1 hu
  rfl
theorem Try.info3 : (Try.prog.info? 3).map (fun i => (i.zero, i.size, i.bytes)) = some (some (.int .i64 0), 1, 8) := by kernel_rfl
end Go.Proofs
/- slices.Equal at nodes and at numbers, and the program's Same. Conditions: lists of at most a million. -/
namespace Go.Proofs
open Go.RowKit Go.Shelf Go.Canon
attribute [local go_sem] Oper.semAt_some

theorem nums_getD {W : World} {b off : Nat} {l : List Int} (h : NumsAt W b off l) : ∀ j, j < l.length → W.cell? ⟨b, off + j, none⟩ = some (.int .i64 (l.getD j 0)) := fun j hj => by
  have e : l[j]? = some (l.getD j 0) := by simp [List.getD, hj]
  exact h.2 j _ e
theorem ins_dec (x y : Ins) : decide (x = y) = (decide (x.name = y.name) && decide (x.kind = y.kind) && decide (x.metric = y.metric) && decide (x.scale = y.scale) && decide (x.cap = y.cap) && decide (x.fleet = y.fleet) && decide (x.nodes = y.nodes) && decide (x.matrix = y.matrix)) := by
  obtain ⟨n1, k1, m1, s1, c1, f1, l1, t1⟩ := x
  obtain ⟨n2, k2, m2, s2, c2, f2, l2, t2⟩ := y
  rw [Bool.eq_iff_iff]
  simp [and_assoc]

end Go.Proofs
/- slices.Clone at nodes and at numbers, and allTens. Conditions: lists of at most a million. -/
namespace Go.Proofs
open Go.RowKit Go.Shelf Go.Canon
attribute [local go_sem] Oper.semAt_some

theorem Try.info40 : (Try.prog.info? 40).map (fun i => (i.zero, i.size, i.bytes)) = some (some (.agg #[.int .i64 0, .int .i64 0, .int .i64 0, .int .i64 0, .int .i64 0, .int .i64 0, .int .i64 0]), 7, 56) := by kernel_rfl
theorem owns_nil (W : World) (base : Nat) (e : TypeId) (size : Nat) : W.ownsRow base e size (.slice none 0 0) 0 [] := ⟨by simp, .inl ⟨rfl, rfl⟩⟩
end Go.Proofs
/- The program's Norm. Conditions: lists of at most a million; points in 64 bits. -/
namespace Go.Proofs
open Go.RowKit Go.Shelf Go.Canon
attribute [local go_sem] Oper.semAt_some

/-- What stands in the middle of Norm: the boxes, the nodes so far, the numbers, both in rows of its own. -/
structure NrmP (w : World) (x : Ins) (u um : Value) (W : World) (s : Int) (l : List Nd) : Prop where
  row : W.ownsRow (w.heap.size + 2) 40 7 u l.length (l.flatMap ndC)
  mrow : W.ownsRow (w.heap.size + 2) 3 1 um x.matrix.length (x.matrix.map fun y => .int .i64 y)
  pb : W.heap[w.heap.size]? = some (.cells #[.string x.name, .int .i64 x.kind, .int .i64 x.metric, .int .i64 s, .int .i64 x.cap, .int .i64 x.fleet, u, um] 25)
  rb : W.heap[w.heap.size + 1]? = some (.cells #[.string ⟨#[]⟩, .int .i64 0, .int .i64 0, .int .i64 0, .int .i64 0, .int .i64 0, .slice none 0 0, .slice none 0 0] 25)
  sz : w.heap.size + 2 ≤ W.heap.size
  below : Below w.heap.size w W
theorem NrmP.p {w W : World} {x : Ins} {u um : Value} {s : Int} {l : List Nd} (h : NrmP w x u um W s l) (j : Nat) : W.cell? ⟨w.heap.size, j, none⟩ = (#[Value.string x.name, .int .i64 x.kind, .int .i64 x.metric, .int .i64 s, .int .i64 x.cap, .int .i64 x.fleet, u, um] : Array Value)[j]? := by
  unfold World.cell?; rw [h.pb]; rfl
theorem NrmP.fp {w W : World} {x : Ins} {u um : Value} {s : Int} {l : List Nd} (h : NrmP w x u um W s l) (j : Nat) : W.frozen? ⟨w.heap.size, j, none⟩ = false := by
  unfold World.frozen?; rw [h.pb]; rfl
theorem NrmP.next {w W W1 : World} {x : Ins} {u um : Value} {s : Int} {l : List Nd} (h : NrmP w x u um W s l) (hB : Below W.heap.size W W1) : NrmP w x u um W1 s l := by
  have hs := h.sz
  exact ⟨h.row.kept (row := none) ⟨hB.os, hB.tape, hB.output, hB.size, fun k hk _ => hB.block k hk⟩ (by cases u.ownBlock <;> simp), h.mrow.kept (row := none) ⟨hB.os, hB.tape, hB.output, hB.size, fun k hk _ => hB.block k hk⟩ (by cases um.ownBlock <;> simp), (hB.block _ (by omega)).trans h.pb, (hB.block _ (by omega)).trans h.rb, Nat.le_trans h.sz hB.size, h.below.trans (hB.mono (by omega))⟩
theorem NrmP.scale {w W : World} {x : Ins} {u um : Value} {s : Int} {l : List Nd} (h : NrmP w x u um W s l) (s' : Int) : NrmP w x u um (W.setCell ⟨w.heap.size, 3, none⟩ (.int .i64 s')) s' l := by
  refine ⟨cowns_set h.row (by show w.heap.size < _; omega) _, cowns_set h.mrow (by show w.heap.size < _; omega) _, ?_, ?_, by have := h.sz; simpa [World.setCell] using this, h.below.setCell (Nat.le_refl _) _⟩
  · have e := h.pb
    simp [World.setCell, Array.getElem?_modify, e]
  · rw [Below.heap_setCell _ _ _ _ (by show w.heap.size + 1 ≠ w.heap.size; omega)]; exact h.rb
/-- A store into the row of nodes. -/
theorem NrmP.shrink {w W : World} {x : Ins} {g c : Nat} {um : Value} {s : Int} {l : List Nd} {n j : Nat} {d : Nd} (h : NrmP w x (.slice (some ⟨g, 0, none⟩) n c) um W s l) (hn : l.length = n) (hd : l[j]? = some d) : NrmP w x (.slice (some ⟨g, 0, none⟩) n c) um ((W.setCell ⟨g, j * 7, none⟩ (.int .i64 (d.x.tdiv 10))).setCell ⟨g, j * 7 + 1, none⟩ (.int .i64 (d.y.tdiv 10))) s (l.set j (shrinkNd d)) := by
  have hrow := h.row
  rw [hn] at hrow
  obtain ⟨g', e, hg⟩ := owns_some hrow (by rw [← hn]; exact Nat.lt_of_le_of_lt (Nat.zero_le _) (List.getElem?_eq_some_iff.1 hd).1)
  obtain rfl : g = g' := by injection e with e; injection e
  have hset : ∀ k, k ≠ g → ((W.setCell ⟨g, j * 7, none⟩ (.int .i64 (d.x.tdiv 10))).setCell ⟨g, j * 7 + 1, none⟩ (.int .i64 (d.y.tdiv 10))).heap[k]? = W.heap[k]? := fun k hk => by
    rw [Below.heap_setCell _ _ _ _ hk, Below.heap_setCell _ _ _ _ hk]
  have r2 := ((hrow.stored (j * 7) (.int .i64 (d.x.tdiv 10))).1.stored (j * 7 + 1) (.int .i64 (d.y.tdiv 10))).1
  rw [flat_set7 hd] at r2
  have hs := h.sz
  refine ⟨by rw [List.length_set, hn]; exact r2, ?_, (hset _ (by omega)).trans h.pb, (hset _ (by omega)).trans h.rb, by simpa [World.setCell] using hs, (h.below.setCell (by show w.heap.size ≤ g; omega) _).setCell (by show w.heap.size ≤ g; omega) _⟩
  refine h.mrow.kept (row := some g) ⟨rfl, rfl, rfl, by simp [World.setCell], fun k _ hk => hset k (fun e => hk (by rw [e]))⟩ (.inr fun e => ?_)
  rcases hrow.2 with ⟨e0, _⟩ | ⟨g1, cap1, cur1, e1, _, hg1, _⟩
  · cases e0
  · rcases h.mrow.2 with ⟨rfl, _⟩ | ⟨g2, cap2, cur2, rfl, _, hg2, _⟩
    · simp [Value.ownBlock] at e
    · have e3 : g2 = g := by simpa [Value.ownBlock] using e
      have e4 : g = g1 := by injection e1 with a; injection a with a; injection a
      rw [e3, e4, hg1] at hg2
      injection hg2 with hg2
      injection hg2 with _ e5
      exact absurd e5 (by decide)
/-- How it begins: the instance in its box, the result's cells. -/
structure NrmB (w : World) (x : Ins) (vn vm : Value) (W : World) : Prop where
  pb : W.heap[w.heap.size]? = some (.cells #[.string x.name, .int .i64 x.kind, .int .i64 x.metric, .int .i64 x.scale, .int .i64 x.cap, .int .i64 x.fleet, vn, vm] 25)
  rb : W.heap[w.heap.size + 1]? = some (.cells #[.string ⟨#[]⟩, .int .i64 0, .int .i64 0, .int .i64 0, .int .i64 0, .int .i64 0, .slice none 0 0, .slice none 0 0] 25)
  sz : w.heap.size + 2 ≤ W.heap.size
  below : Below w.heap.size w W
theorem NrmB.next {w W W1 : World} {x : Ins} {vn vm : Value} (h : NrmB w x vn vm W) (hB : Below W.heap.size W W1) : NrmB w x vn vm W1 := by
  have hs := h.sz
  exact ⟨(hB.block _ (by omega)).trans h.pb, (hB.block _ (by omega)).trans h.rb, Nat.le_trans h.sz hB.size, h.below.trans (hB.mono (by omega))⟩
theorem NrmB.drew {w W : World} {x : Ins} {vn vm : Value} (h : NrmB w x vn vm W) : NrmB w x vn vm W.drew := ⟨h.pb, h.rb, h.sz, h.below.os, h.below.tape, h.below.output, h.below.size, h.below.block⟩
theorem NrmB.cells {w W : World} {x : Ins} {vn vm : Value} (h : NrmB w x vn vm W) : W.cell? ⟨w.heap.size, 6, none⟩ = some vn ∧ W.cell? ⟨w.heap.size, 7, none⟩ = some vm ∧ W.frozen? ⟨w.heap.size, 6, none⟩ = false ∧ W.frozen? ⟨w.heap.size, 7, none⟩ = false := by
  refine ⟨?_, ?_, ?_, ?_⟩
  · unfold World.cell?; rw [h.pb]; rfl
  · unfold World.cell?; rw [h.pb]; rfl
  · unfold World.frozen?; rw [h.pb]; rfl
  · unfold World.frozen?; rw [h.pb]; rfl
theorem owns_up {w : World} {base base' : Nat} {e : TypeId} {size : Nat} {v : Value} {k : Nat} {xs : List Value} (h : w.ownsRow base e size v k xs) (hb : base' ≤ base) : w.ownsRow base' e size v k xs := owns_low h hb
/-- Both copies are made, and stand in the box. -/
theorem nrm_both {w W : World} {x : Ins} {vn vm u um : Value} (h : NrmB w x vn vm W) (h1 : W.ownsRow (w.heap.size + 2) 40 7 u x.nodes.length (x.nodes.flatMap ndC)) (h2 : W.ownsRow (w.heap.size + 2) 3 1 um x.matrix.length (x.matrix.map fun y => .int .i64 y)) : NrmP w x u um ((W.setCell ⟨w.heap.size, 6, none⟩ u).setCell ⟨w.heap.size, 7, none⟩ um) x.scale x.nodes := by
  have hset : ∀ k, k ≠ w.heap.size → ((W.setCell ⟨w.heap.size, 6, none⟩ u).setCell ⟨w.heap.size, 7, none⟩ um).heap[k]? = W.heap[k]? := fun k hk => by
    rw [Below.heap_setCell _ _ _ _ hk, Below.heap_setCell _ _ _ _ hk]
  refine ⟨cowns_set (cowns_set h1 (by show w.heap.size < _; omega) _) (by show w.heap.size < _; omega) _, cowns_set (cowns_set h2 (by show w.heap.size < _; omega) _) (by show w.heap.size < _; omega) _, ?_, (hset _ (by omega)).trans h.rb, by have := h.sz; simpa [World.setCell] using this, (h.below.setCell (Nat.le_refl _) _).setCell (Nat.le_refl _) _⟩
  have e := h.pb
  simp [World.setCell, Array.getElem?_modify, e]
theorem nrm_both' {w W : World} {x : Ins} {vn vm u um : Value} (h : NrmB w x vn vm W) (h1 : W.ownsRow (w.heap.size + 2) 40 7 u x.nodes.length (x.nodes.flatMap ndC)) (h2 : W.ownsRow (w.heap.size + 2) 3 1 um x.matrix.length (x.matrix.map fun y => .int .i64 y)) : NrmP w x u um ((W.setCell ⟨w.heap.size, 7, none⟩ um).setCell ⟨w.heap.size, 6, none⟩ u) x.scale x.nodes := by
  have hset : ∀ k, k ≠ w.heap.size → ((W.setCell ⟨w.heap.size, 7, none⟩ um).setCell ⟨w.heap.size, 6, none⟩ u).heap[k]? = W.heap[k]? := fun k hk => by
    rw [Below.heap_setCell _ _ _ _ hk, Below.heap_setCell _ _ _ _ hk]
  refine ⟨cowns_set (cowns_set h1 (by show w.heap.size < _; omega) _) (by show w.heap.size < _; omega) _, cowns_set (cowns_set h2 (by show w.heap.size < _; omega) _) (by show w.heap.size < _; omega) _, ?_, (hset _ (by omega)).trans h.rb, by have := h.sz; simpa [World.setCell] using this, (h.below.setCell (Nat.le_refl _) _).setCell (Nat.le_refl _) _⟩
  have e := h.pb
  simp [World.setCell, Array.getElem?_modify, e]
theorem owns_next {W W1 : World} {base : Nat} {e : TypeId} {size : Nat} {v : Value} {k : Nat} {xs : List Value} (h : W.ownsRow base e size v k xs) (hB : Below W.heap.size W W1) : W1.ownsRow base e size v k xs :=
  h.kept (row := none) ⟨hB.os, hB.tape, hB.output, hB.size, fun k hk _ => hB.block k hk⟩ (by cases v.ownBlock <;> simp)
end Go.Proofs
/- Plain facts: what a format can't express of an instance, field by field, and what is left when fields are turned. No program. -/
namespace Go.Expr
open Go.Canon
/-- Has a node this field, so that it can't be expressed? -/
def nodeQ (g : Int) (d : Nd) : Bool := decide (g = 10 ∧ d.demand < 0) || decide (g = 11 ∧ (d.ready ≠ 0 ∨ d.due ≠ 0)) || decide (g = 12 ∧ d.service ≠ 0) || decide (g = 13 ∧ d.mate ≠ 0)
def someQ (g : Int) (l : List Nd) : Bool := l.any (nodeQ g)
def lilim : ByteArray := ⟨#[108, 105, 108, 105, 109]⟩
theorem lilim_list : lilim.toList = [108, 105, 108, 105, 109] := by decide +kernel
/-- Can a format not express a field of an instance? -/
def lackQ (f g : Int) (x : Ins) : Bool :=
  if f < 1 ∨ 5 < f then true
  else if 3 < f then false
  else if g = 1 then decide (f = 3 ∧ x.name.toList ≠ [108, 105, 108, 105, 109])
  else if g = 2 then decide ((f = 1 ∧ x.kind ≠ 1 ∧ x.kind ≠ 2) ∨ (f = 2 ∧ x.kind ≠ 3) ∨ (f = 3 ∧ x.kind ≠ 4))
  else if g = 3 then decide ((f = 1 ∧ (x.metric < 0 ∨ 5 < x.metric)) ∨ (1 < f ∧ x.metric ≠ 6))
  else if g = 4 then decide (f = 3 ∧ x.scale ≠ 0)
  else if g = 6 then decide ((f = 1 ∧ x.fleet ≠ 0) ∨ (1 < f ∧ x.fleet < 1))
  else if g = 10 ∨ g = 13 then decide (f < 3) && someQ g x.nodes
  else if g = 11 ∨ g = 12 then decide (f = 1) && someQ g x.nodes
  else false
/-- The fields that lack, up to one. -/
def lacksN (f : Int) (x : Ins) : Nat → List Int
  | 0 => []
  | n + 1 => lacksN f x n ++ (if lackQ f (n + 1 : Nat) x then [((n + 1 : Nat) : Int)] else [])
theorem lacksN_step {f : Int} {x : Ins} {k : Nat} (h : 1 ≤ k) : lacksN f x k = lacksN f x (k - 1) ++ (if lackQ f (k : Int) x then [(k : Int)] else []) := by
  obtain ⟨j, rfl⟩ : ∃ j, k = j + 1 := ⟨k - 1, by omega⟩
  rfl
def lacksL (f : Int) (x : Ins) : List Int := lacksN f x 13
def canB (f : Int) (x : Ins) : Bool := decide ((lacksL f x).length = 0)
theorem lacksN_mem {f : Int} {x : Ins} {s : Int} : ∀ {n : Nat}, s ∈ lacksN f x n ↔ ∃ k : Nat, 1 ≤ k ∧ k ≤ n ∧ s = (k : Int) ∧ lackQ f (k : Int) x = true
  | 0 => by simp [lacksN]; omega
  | n + 1 => by
    rw [lacksN, List.mem_append, lacksN_mem]
    constructor
    · rintro (⟨k, h1, h2, h3⟩ | h)
      · exact ⟨k, h1, by omega, h3⟩
      · by_cases e : lackQ f (n + 1 : Nat) x = true
        · rw [if_pos e] at h
          exact ⟨n + 1, by omega, Nat.le_refl _, by simpa using h, e⟩
        · rw [if_neg e] at h; cases h
    · rintro ⟨k, h1, h2, h3, h4⟩
      by_cases e : k = n + 1
      · subst e
        right
        rw [if_pos h4, h3]; simp
      · exact .inl ⟨k, h1, by omega, h3, h4⟩
theorem lacksN_len (f : Int) (x : Ins) : ∀ n : Nat, (lacksN f x n).length ≤ n
  | 0 => Nat.le_refl _
  | n + 1 => by
    have := lacksN_len f x n
    rw [lacksN, List.length_append]
    split <;> simp <;> omega
theorem lacksN_full {f : Int} {x : Ins} : ∀ {n : Nat}, (lacksN f x n).length = n ↔ ∀ k : Nat, 1 ≤ k → k ≤ n → lackQ f (k : Int) x = true
  | 0 => ⟨fun _ k h1 h2 => by omega, fun _ => rfl⟩
  | n + 1 => by
    have hl := lacksN_len f x n
    rw [lacksN, List.length_append]
    by_cases e : lackQ f (n + 1 : Nat) x = true
    · rw [if_pos e]
      have hi := lacksN_full (f := f) (x := x) (n := n)
      constructor
      · intro h k h1 h2
        by_cases ek : k = n + 1
        · rw [ek]; exact e
        · exact hi.1 (by simp at h; omega) k h1 (by omega)
      · intro h
        have := hi.2 fun k h1 h2 => h k h1 (by omega)
        simp; omega
    · rw [if_neg e]
      constructor
      · intro h; simp at h; omega
      · intro h; exact absurd (h (n + 1) (by omega) (Nat.le_refl _)) e
theorem lacksN_rises {f : Int} {x : Ins} : ∀ n : Nat, (lacksN f x n).Pairwise (· < ·)
  | 0 => List.Pairwise.nil
  | n + 1 => by
    rw [lacksN, List.pairwise_append]
    refine ⟨lacksN_rises n, ?_, fun a ha b hb => ?_⟩
    · split <;> simp
    · obtain ⟨k, _, h2, h3, _⟩ := lacksN_mem.1 ha
      split at hb
      · have : b = ((n + 1 : Nat) : Int) := by simpa using hb
        omega
      · cases hb
theorem lacksL_mem {f : Int} {x : Ins} {s : Int} : s ∈ lacksL f x ↔ 1 ≤ s ∧ s ≤ 13 ∧ lackQ f s x = true := by
  unfold lacksL
  rw [lacksN_mem]
  constructor
  · rintro ⟨k, h1, h2, rfl, h4⟩
    exact ⟨by omega, by omega, h4⟩
  · rintro ⟨h1, h2, h3⟩
    have e : ((s.toNat : Nat) : Int) = s := Int.toNat_of_nonneg (by omega)
    exact ⟨s.toNat, by omega, by omega, e.symm, by rw [e]; exact h3⟩
theorem canB_iff {f : Int} {x : Ins} : canB f x = true ↔ ∀ s, 1 ≤ s → s ≤ 13 → lackQ f s x = false := by
  unfold canB
  rw [decide_eq_true_iff, List.length_eq_zero_iff, List.eq_nil_iff_forall_not_mem]
  constructor
  · intro h s h1 h2
    rw [Bool.eq_false_iff]
    exact fun h3 => h s (lacksL_mem.2 ⟨h1, h2, h3⟩)
  · intro h s hs
    obtain ⟨h1, h2, h3⟩ := lacksL_mem.1 hs
    rw [h s h1 h2] at h3; cases h3
/-- Of a format that there is not all lack, of others not all. -/
theorem lacks_all {f : Int} {x : Ins} : (lacksL f x).length = 13 ↔ f < 1 ∨ 5 < f := by
  unfold lacksL
  rw [lacksN_full]
  constructor
  · intro h
    have h5 := h 5 (by decide) (by decide)
    by_cases hf : f < 1 ∨ 5 < f
    · exact hf
    · unfold lackQ at h5
      rw [if_neg hf] at h5
      simp at h5
  · intro h k _ _
    unfold lackQ; rw [if_pos h]
theorem lacks_none {f : Int} {x : Ins} (h : 3 < f) (h5 : f ≤ 5) : lacksL f x = [] := by
  rw [List.eq_nil_iff_forall_not_mem]
  intro s hs
  have := (lacksL_mem.1 hs).2.2
  unfold lackQ at this
  rw [if_neg (by omega), if_pos h] at this
  cases this
end Go.Expr
/- Plain facts on plans: routes of stops, their normal form, what is counted and found; no program. -/
namespace Go.Plans
/-- Routes of stops. -/
abbrev Rts := List (List Int)
def many (rr : Rts) : Nat := (rr.map List.length).sum
def stopsIn (rr : Rts) : Bool := rr.all fun r => r.all fun s => decide (0 ≤ s) && decide (s ≤ 399)
/-- plan.Check: 0, ErrArg 1, ErrFull 2. -/
def checkE (rr : Rts) : Int := if 400 < rr.length ∨ 2000 < many rr then 2 else if stopsIn rr = true then 0 else 1
def normR (rr : Rts) : Rts := rr.filter fun r => !r.isEmpty
/-- The first place of a stop on a route. -/
def place (s : Int) : List Int → Option Nat
  | [] => none
  | a :: l => if a = s then some 0 else (place s l).map (· + 1)
/-- The first route with a stop, and its place there. -/
def findR (s : Int) : Rts → Option (Nat × Nat)
  | [] => none
  | r :: rr => match place s r with
    | some k => some (0, k)
    | none => (findR s rr).map fun p => (p.1 + 1, p.2)
def countR (rr : Rts) (c : Int) : Nat := (rr.map fun r => r.count c).sum
def countL (rr : Rts) (n : Nat) : List Int := (List.range n).map fun (c : Nat) => (countR rr (c : Int) : Int)
theorem many_cons (r : List Int) (rr : Rts) : many (r :: rr) = r.length + many rr := by simp [many]
theorem many_flat (rr : Rts) : many rr = rr.flatten.length := by simp [many, List.length_flatten]
theorem many_append (a b : Rts) : many (a ++ b) = many a + many b := by simp [many]
theorem countR_flat (rr : Rts) (c : Int) : countR rr c = rr.flatten.count c := by
  induction rr with
  | nil => rfl
  | cons r rr ih => simp only [countR, List.map_cons, List.sum_cons, List.flatten_cons, List.count_append] at ih ⊢; rw [ih]
theorem countR_append (a b : Rts) (c : Int) : countR (a ++ b) c = countR a c + countR b c := by simp [countR]
theorem norm_flat (rr : Rts) : (normR rr).flatten = rr.flatten := by
  induction rr with
  | nil => rfl
  | cons r rr ih =>
    unfold normR at ih ⊢
    cases r with
    | nil => simpa using ih
    | cons a l => simp [ih]
theorem pnorm_own (rr : Rts) : normR (normR rr) = normR rr := by unfold normR; rw [List.filter_filter]; simp
theorem norm_many (rr : Rts) : many (normR rr) = many rr := by rw [many_flat, many_flat, norm_flat]
theorem norm_count (rr : Rts) (c : Int) : countR (normR rr) c = countR rr c := by rw [countR_flat, countR_flat, norm_flat]
theorem norm_counts (rr : Rts) (n : Nat) : countL (normR rr) n = countL rr n := by
  unfold countL; congr 1; funext c; rw [norm_count]
theorem norm_none {rr : Rts} {r : List Int} (h : r ∈ normR rr) : r ≠ [] := by
  intro e
  rw [e] at h
  simp [normR] at h
theorem place_none {s : Int} : ∀ {l : List Int}, place s l = none ↔ s ∉ l
  | [] => by simp [place]
  | a :: l => by
    unfold place
    by_cases h : a = s
    · simp [h]
    · rw [if_neg h, Option.map_eq_none_iff, place_none (l := l)]
      simp only [List.mem_cons, not_or]
      exact ⟨fun h2 => ⟨fun e => h e.symm, h2⟩, fun h2 => h2.2⟩
theorem place_get {s : Int} : ∀ {l : List Int} {k : Nat}, place s l = some k → l[k]? = some s
  | [], k, h => by simp [place] at h
  | a :: l, k, h => by
    unfold place at h
    by_cases he : a = s
    · rw [if_pos he] at h
      cases h
      simp [he]
    · rw [if_neg he] at h
      obtain ⟨j, hj, rfl⟩ := Option.map_eq_some_iff.1 h
      simpa using place_get hj
theorem findR_none {s : Int} : ∀ {rr : Rts}, findR s rr = none ↔ s ∉ rr.flatten
  | [] => by simp [findR]
  | r :: rr => by
    unfold findR
    cases h : place s r with
    | none =>
      have h1 := place_none.1 h
      simp only [Option.map_eq_none_iff, findR_none (rr := rr), List.flatten_cons, List.mem_append, not_or]
      exact ⟨fun h2 => ⟨h1, h2⟩, fun h2 => h2.2⟩
    | some k =>
      have h1 := List.mem_of_getElem? (place_get h)
      simp [h1]
theorem findR_get {s : Int} : ∀ {rr : Rts} {i k : Nat}, findR s rr = some (i, k) → ∃ r, rr[i]? = some r ∧ r[k]? = some s
  | [], i, k, h => by simp [findR] at h
  | r :: rr, i, k, h => by
    unfold findR at h
    cases hp : place s r with
    | some j =>
      rw [hp] at h
      cases h
      exact ⟨r, rfl, place_get hp⟩
    | none =>
      rw [hp] at h
      obtain ⟨⟨i', k'⟩, h1, h2⟩ := Option.map_eq_some_iff.1 h
      cases h2
      obtain ⟨r', h3, h4⟩ := findR_get h1
      exact ⟨r', by simpa using h3, h4⟩
theorem findR_cons (s : Int) (r : List Int) (rr : Rts) : findR s (r :: rr) = match place s r with
    | some k => some (0, k)
    | none => (findR s rr).map fun p => (p.1 + 1, p.2) := rfl
theorem findR_append (s : Int) (q : Rts) : ∀ p : Rts, findR s (p ++ q) = match findR s p with
    | some x => some x
    | none => (findR s q).map fun x => (x.1 + p.length, x.2)
  | [] => by simp [findR]
  | r :: p => by
    rw [List.cons_append, findR_cons, findR_cons, findR_append s q p]
    cases place s r with
    | some k => rfl
    | none =>
      cases findR s p with
      | some x => rfl
      | none =>
        cases findR s q with
        | none => rfl
        | some x =>
          show some (x.1 + p.length + 1, x.2) = some (x.1 + (p.length + 1), x.2)
          rw [Nat.add_assoc]
theorem findR_norm (s : Int) : ∀ rr : Rts, (findR s (normR rr)).map (·.2) = (findR s rr).map (·.2)
  | [] => rfl
  | r :: rr => by
    have ih := findR_norm s rr
    cases r with
    | nil =>
      have e : normR ([] :: rr) = normR rr := rfl
      rw [e, ih]
      show _ = (Option.map (fun p => (p.1 + 1, p.2)) (findR s rr)).map (·.2)
      cases findR s rr <;> rfl
    | cons a l =>
      have e : normR ((a :: l) :: rr) = (a :: l) :: normR rr := rfl
      rw [e]
      unfold findR
      cases place s (a :: l) with
      | some k => rfl
      | none =>
        dsimp only
        rw [Option.map_map, Option.map_map]
        have f1 : ((fun x : Nat × Nat => x.2) ∘ fun p : Nat × Nat => (p.1 + 1, p.2)) = (fun x => x.2) := rfl
        rw [f1]
        exact ih
theorem found_iff (s : Int) (rr : Rts) : (findR s rr).isSome = decide (0 < countR rr s) := by
  rw [countR_flat]
  cases h : findR s rr with
  | none => have := findR_none.1 h; simp [List.count_eq_zero.2 this]
  | some p =>
    have : s ∈ rr.flatten := by
      apply Classical.byContradiction
      intro hn
      rw [findR_none.2 hn] at h
      cases h
    simp [List.count_pos_iff.2 this]
/-- How many of a list are 0 to n. -/
theorem counts_within : ∀ (l : List Int) (n : Nat), ((List.range n).map fun (c : Nat) => l.count (c : Int)).sum = (l.filter fun (s : Int) => decide (0 ≤ s) && decide (s < (n : Int))).length := by
  intro l n
  induction n with
  | zero =>
    have : (l.filter fun (s : Int) => decide (0 ≤ s) && decide (s < ((0 : Nat) : Int))) = [] := by
      rw [List.filter_eq_nil_iff]; intro a _; simp
    rw [this]; rfl
  | succ n ih =>
    rw [List.range_succ, List.map_append, List.sum_append, ih]
    simp only [List.map_cons, List.map_nil, List.sum_cons, List.sum_nil, Nat.add_zero]
    clear ih
    induction l with
    | nil => rfl
    | cons a l ihl =>
      rw [List.count_cons, List.filter_cons, List.filter_cons]
      by_cases h1 : a = (n : Int)
      · subst h1
        have e1 : (decide ((0 : Int) ≤ (n : Int)) && decide ((n : Int) < (n : Int))) = false := by simp
        have e2 : (decide ((0 : Int) ≤ (n : Int)) && decide ((n : Int) < ((n + 1 : Nat) : Int))) = true := by simp; omega
        rw [e1, e2]
        simp only [beq_self_eq_true, if_true, Bool.false_eq_true, if_false, List.length_cons]
        omega
      · have e3 : (a == (n : Int)) = false := by simp [h1]
        have e4 : (decide ((0 : Int) ≤ a) && decide (a < ((n + 1 : Nat) : Int))) = (decide ((0 : Int) ≤ a) && decide (a < (n : Int))) := by
          rw [Bool.eq_iff_iff]; simp; omega
        rw [e3, e4]
        split <;> simp_all <;> omega
theorem counts_sum (rr : Rts) (n : Nat) : ((List.range n).map fun (c : Nat) => countR rr (c : Int)).sum = (rr.flatten.filter fun (s : Int) => decide (0 ≤ s) && decide (s < (n : Int))).length := by
  rw [← counts_within]
  congr 1
  apply List.map_congr_left
  intro c _
  exact countR_flat rr _
theorem counts_most (rr : Rts) (n : Nat) : ((List.range n).map fun (c : Nat) => countR rr (c : Int)).sum ≤ many rr := by
  rw [counts_sum, many_flat]; exact List.length_filter_le _ _
theorem counts_all {rr : Rts} {n : Nat} (h : ∀ s ∈ rr.flatten, 0 ≤ s ∧ s < n) : ((List.range n).map fun (c : Nat) => countR rr (c : Int)).sum = many rr := by
  rw [counts_sum, many_flat, List.filter_eq_self.2]
  intro s hs
  have := h s hs
  simp; omega
#print axioms counts_all
#print axioms findR_norm
#print axioms findR_append
#print axioms found_iff
end Go.Plans
/- Plain facts on layouts of matrices; no program. kind of 1 to 7; n rows; places are told as pairs of a row and a column. -/
namespace Go.Layout

/-- Does a layout tell the number of row i and column j? -/
def tells (k i j : Nat) : Bool :=
  if k = 2 ∨ k = 6 then decide (i < j) else if k = 3 ∨ k = 7 then decide (j < i) else if k = 4 then decide (i ≤ j) else if k = 5 then decide (j ≤ i) else true
/-- The place of step a, b of two loops: column by column in two of the layouts. -/
def cellAt (k : Nat) (p : Nat × Nat) : Nat × Nat := if k = 6 ∨ k = 7 then (p.2, p.1) else p
/-- All pairs, row by row. -/
def pairs (n : Nat) : List (Nat × Nat) := (List.range (n * n)).map fun x => (x / n, x % n)
/-- The places that a layout tells among the first s steps, in its order. -/
def toldUpto (k n s : Nat) : List (Nat × Nat) := (((pairs n).take s).map (cellAt k)).filter fun q => tells k q.1 q.2
def places (k n : Nat) : List (Nat × Nat) := ((pairs n).map (cellAt k)).filter fun q => tells k q.1 q.2

theorem pairs_length (n : Nat) : (pairs n).length = n * n := by simp [pairs]
theorem div_step {n a b : Nat} (hb : b < n) : (a * n + b) / n = a := by
  rw [Nat.mul_comm, Nat.mul_add_div (by omega), Nat.div_eq_of_lt hb]; omega
theorem mod_step {n a b : Nat} (hb : b < n) : (a * n + b) % n = b := by
  rw [Nat.mul_comm, Nat.mul_add_mod, Nat.mod_eq_of_lt hb]
theorem step_lt {n a b : Nat} (ha : a < n) (hb : b < n) : a * n + b < n * n := by
  have h1 : (a + 1) * n ≤ n * n := Nat.mul_le_mul_right n ha
  rw [Nat.add_mul] at h1
  omega
theorem pairs_get {n a b : Nat} (ha : a < n) (hb : b < n) : (pairs n)[a * n + b]? = some (a, b) := by
  have h := step_lt ha hb
  simp [pairs, List.getElem?_range h, div_step hb, mod_step hb]
theorem mem_pairs {n a b : Nat} : (a, b) ∈ pairs n ↔ a < n ∧ b < n := by
  constructor
  · intro h
    obtain ⟨x, hx, he⟩ := List.mem_map.1 h
    have hx := List.mem_range.1 hx
    have hn : 0 < n := by rcases Nat.eq_zero_or_pos n with h0 | h0; · subst h0; simp at hx
                          · exact h0
    cases he
    exact ⟨(Nat.div_lt_iff_lt_mul hn).2 hx, Nat.mod_lt _ hn⟩
  · rintro ⟨ha, hb⟩
    exact List.mem_of_getElem? (pairs_get ha hb)
theorem nodup_map {α β : Type} {f : α → β} {l : List α} (h : ∀ x ∈ l, ∀ y ∈ l, f x = f y → x = y) (hl : l.Nodup) : (l.map f).Nodup := by
  unfold List.Nodup at hl ⊢
  rw [List.pairwise_map]
  exact hl.imp_of_mem fun hx hy hne e => hne (h _ hx _ hy e)
theorem pairs_nodup (n : Nat) : (pairs n).Nodup := by
  refine nodup_map ?_ List.nodup_range
  intro x hx y hy h
  have h1 : x / n = y / n := (Prod.mk.inj h).1
  have h2 : x % n = y % n := (Prod.mk.inj h).2
  rw [← Nat.div_add_mod x n, ← Nat.div_add_mod y n, h1, h2]
theorem cellAt_cellAt (k : Nat) (p : Nat × Nat) : cellAt k (cellAt k p) = p := by unfold cellAt; split <;> rfl
theorem cellAt_inj {k : Nat} {p q : Nat × Nat} (h : cellAt k p = cellAt k q) : p = q := by rw [← cellAt_cellAt k p, h, cellAt_cellAt]
theorem cells_nodup (k n : Nat) : ((pairs n).map (cellAt k)).Nodup := nodup_map (fun _ _ _ _ h => cellAt_inj h) (pairs_nodup n)
theorem places_nodup (k n : Nat) : (places k n).Nodup := (cells_nodup k n).filter _
theorem mem_cells {k n i j : Nat} : (i, j) ∈ (pairs n).map (cellAt k) ↔ i < n ∧ j < n := by
  rw [List.mem_map]
  constructor
  · rintro ⟨⟨a, b⟩, h, he⟩
    have := mem_pairs.1 h
    unfold cellAt at he
    split at he <;> cases he <;> exact ⟨by omega, by omega⟩
  · rintro ⟨hi, hj⟩
    refine ⟨cellAt k (i, j), ?_, cellAt_cellAt k _⟩
    unfold cellAt
    split
    · exact mem_pairs.2 ⟨hj, hi⟩
    · exact mem_pairs.2 ⟨hi, hj⟩
theorem mem_places {k n i j : Nat} : (i, j) ∈ places k n ↔ (i < n ∧ j < n) ∧ tells k i j = true := by
  unfold places; rw [List.mem_filter, mem_cells]
theorem toldUpto_zero (k n : Nat) : toldUpto k n 0 = [] := by simp [toldUpto]
theorem toldUpto_all (k n : Nat) : toldUpto k n (n * n) = places k n := by
  unfold toldUpto places; rw [List.take_of_length_le (by rw [pairs_length]; exact Nat.le_refl _)]
theorem toldUpto_next {k n a b : Nat} (ha : a < n) (hb : b < n) :
    toldUpto k n (a * n + b + 1) = toldUpto k n (a * n + b) ++ if tells k (cellAt k (a, b)).1 (cellAt k (a, b)).2 = true then [cellAt k (a, b)] else [] := by
  unfold toldUpto
  rw [List.take_add_one, pairs_get ha hb]
  simp only [Option.toList_some, List.map_append, List.filter_append, List.map_cons, List.map_nil, List.filter_cons, List.filter_nil]
theorem toldUpto_row {k n a : Nat} : toldUpto k n (a * n + n) = toldUpto k n ((a + 1) * n + 0) := by rw [Nat.add_mul, Nat.one_mul, Nat.add_zero]
theorem toldUpto_pre (k n s : Nat) : toldUpto k n s <+: places k n := by
  unfold toldUpto places
  exact ((List.take_prefix s (pairs n)).map _).filter _
theorem toldUpto_le (k n s : Nat) : (toldUpto k n s).length ≤ (places k n).length := (toldUpto_pre k n s).length_le
/-- The place of a step that is told is the next one. -/
theorem places_at {k n a b : Nat} (ha : a < n) (hb : b < n) (h : tells k (cellAt k (a, b)).1 (cellAt k (a, b)).2 = true) :
    (places k n)[(toldUpto k n (a * n + b)).length]? = some (cellAt k (a, b)) := by
  have h1 := toldUpto_next (k := k) ha hb
  rw [if_pos h] at h1
  have h2 := toldUpto_pre k n (a * n + b + 1)
  rw [h1] at h2
  obtain ⟨r, hr⟩ := h2
  rw [← hr]
  simp

/-! How many are told. -/
/-- Is step a, b told? -/
def told (k a b : Nat) : Bool := tells k (cellAt k (a, b)).1 (cellAt k (a, b)).2
theorem told_one (a b : Nat) : told 1 a b = true := by simp [told, tells]
theorem told_up {k a b : Nat} (hk : k = 2 ∨ k = 7) : told k a b = decide (a < b) := by rcases hk with rfl | rfl <;> simp [told, tells, cellAt]
theorem told_low {k a b : Nat} (hk : k = 3 ∨ k = 6) : told k a b = decide (b < a) := by rcases hk with rfl | rfl <;> simp [told, tells, cellAt]
theorem told_four (a b : Nat) : told 4 a b = decide (a ≤ b) := by simp [told, tells, cellAt]
theorem told_five (a b : Nat) : told 5 a b = decide (b ≤ a) := by simp [told, tells, cellAt]
/-- How many are told of the first b steps of row a. -/
def rowUp (k a : Nat) : Nat → Nat
  | 0 => 0
  | b + 1 => rowUp k a b + if told k a b = true then 1 else 0
theorem len_next {k n a b : Nat} (ha : a < n) (hb : b < n) : (toldUpto k n (a * n + b + 1)).length = (toldUpto k n (a * n + b)).length + if told k a b = true then 1 else 0 := by
  rw [toldUpto_next ha hb]
  unfold told
  split <;> simp
theorem len_row {k n a b : Nat} (ha : a < n) (hb : b ≤ n) : (toldUpto k n (a * n + b)).length = (toldUpto k n (a * n)).length + rowUp k a b := by
  induction b with
  | zero => simp [rowUp]
  | succ b ih => rw [← Nat.add_assoc, len_next ha (by omega), ih (by omega), rowUp]; omega
/-- How many are told ahead of row a, row by row. -/
def rowsUp (k n : Nat) : Nat → Nat
  | 0 => 0
  | a + 1 => rowsUp k n a + rowUp k a n
theorem len_rows {k n a : Nat} (ha : a ≤ n) : (toldUpto k n (a * n)).length = rowsUp k n a := by
  induction a with
  | zero => simp [rowsUp, toldUpto_zero]
  | succ a ih => rw [Nat.add_mul, Nat.one_mul, len_row (by omega) (Nat.le_refl n), ih (by omega), rowsUp]
theorem len_at {k n a b : Nat} (ha : a < n) (hb : b ≤ n) : (toldUpto k n (a * n + b)).length = rowsUp k n a + rowUp k a b := by
  rw [len_row ha hb, len_rows (by omega)]
def tri : Nat → Nat
  | 0 => 0
  | a + 1 => tri a + a
theorem tri_eq (a : Nat) : 2 * tri a = a * (a - 1) := by
  induction a with
  | zero => rfl
  | succ a ih =>
    cases a with
    | zero => rfl
    | succ c =>
      simp only [tri, Nat.add_sub_cancel] at ih ⊢
      have : (c + 1 + 1) * (c + 1) = (c + 1) * c + 2 * (c + 1) := by simp only [Nat.add_mul, Nat.mul_add]; omega
      omega
theorem tri_half (n : Nat) : n * (n - 1) / 2 = tri n := by have := tri_eq n; omega
theorem tri_half' (n : Nat) : n * (n + 1) / 2 = tri (n + 1) := by have := tri_eq (n + 1); rw [Nat.add_sub_cancel, Nat.mul_comm (n + 1) n] at this; omega
/-- The number of places. -/
def count (k n : Nat) : Nat := if k = 1 then n * n else if k = 4 ∨ k = 5 then n * (n + 1) / 2 else n * (n - 1) / 2
theorem rowUp_one (a b : Nat) : rowUp 1 a b = b := by induction b with | zero => rfl | succ b ih => rw [rowUp, ih, told_one]; rfl
theorem rowUp_low {k : Nat} (hk : k = 3 ∨ k = 6) (a b : Nat) : rowUp k a b = min b a := by
  induction b with
  | zero => simp [rowUp]
  | succ b ih => rw [rowUp, ih, told_low hk]; by_cases h : b < a <;> simp [h] <;> omega
theorem rowUp_five (a b : Nat) : rowUp 5 a b = min b (a + 1) := by
  induction b with
  | zero => simp [rowUp]
  | succ b ih => rw [rowUp, ih, told_five]; by_cases h : b ≤ a <;> simp [h] <;> omega
theorem rowUp_up {k : Nat} (hk : k = 2 ∨ k = 7) (a b : Nat) : rowUp k a b = b - (a + 1) := by
  induction b with
  | zero => simp [rowUp]
  | succ b ih => rw [rowUp, ih, told_up hk]; by_cases h : a < b <;> simp [h] <;> omega
theorem rowUp_four (a b : Nat) : rowUp 4 a b = b - a := by
  induction b with
  | zero => simp [rowUp]
  | succ b ih => rw [rowUp, ih, told_four]; by_cases h : a ≤ b <;> simp [h] <;> omega
theorem rows_one (n a : Nat) : rowsUp 1 n a = a * n := by induction a with | zero => simp [rowsUp] | succ a ih => rw [rowsUp, ih, rowUp_one, Nat.add_mul, Nat.one_mul]
theorem rows_low {k : Nat} (hk : k = 3 ∨ k = 6) {n a : Nat} (ha : a ≤ n) : rowsUp k n a = tri a := by
  induction a with
  | zero => rfl
  | succ a ih => rw [rowsUp, ih (by omega), rowUp_low hk, tri]; omega
theorem rows_five {n a : Nat} (ha : a ≤ n) : rowsUp 5 n a = tri (a + 1) := by
  induction a with
  | zero => rfl
  | succ a ih => rw [rowsUp, ih (by omega), rowUp_five]; show _ = tri (a + 1) + (a + 1); omega
theorem rows_up {k : Nat} (hk : k = 2 ∨ k = 7) {n a : Nat} (ha : a ≤ n) : rowsUp k n a + tri (n - a) = tri n := by
  induction a with
  | zero => simp [rowsUp]
  | succ a ih =>
    have h1 := ih (by omega)
    rw [rowsUp, rowUp_up hk]
    rw [show n - a = (n - (a + 1)) + 1 by omega, tri] at h1
    omega
theorem rows_four {n a : Nat} (ha : a ≤ n) : rowsUp 4 n a + tri (n + 1 - a) = tri (n + 1) := by
  induction a with
  | zero => simp [rowsUp]
  | succ a ih =>
    have h1 := ih (by omega)
    rw [rowsUp, rowUp_four]
    rw [show n + 1 - a = (n + 1 - (a + 1)) + 1 by omega, tri] at h1
    omega
theorem places_length {k n : Nat} (hk : 1 ≤ k) (hk7 : k ≤ 7) : (places k n).length = count k n := by
  rw [← toldUpto_all, len_rows (Nat.le_refl n)]
  unfold count
  rcases (show k = 1 ∨ (k = 2 ∨ k = 7) ∨ (k = 3 ∨ k = 6) ∨ k = 4 ∨ k = 5 by omega) with rfl | hk | hk | rfl | rfl
  · rw [if_pos rfl, rows_one]
  · rw [if_neg (by omega), if_neg (by omega), tri_half]
    have := rows_up hk (Nat.le_refl n)
    rw [Nat.sub_self] at this
    simp only [tri] at this
    omega
  · rw [if_neg (by omega), if_neg (by omega), tri_half, rows_low hk (Nat.le_refl n)]
  · rw [if_neg (by omega), if_pos (by omega), tri_half']
    have := rows_four (Nat.le_refl n)
    rw [show n + 1 - n = 1 by omega] at this
    simp only [tri] at this ⊢
    omega
  · rw [if_neg (by omega), if_pos (by omega), tri_half', rows_five (Nat.le_refl n)]

/-! Where a place stands. -/
/-- At which place stands what is told of row i and column j. -/
def rank (k n i j : Nat) : Nat := (toldUpto k n ((cellAt k (i, j)).1 * n + (cellAt k (i, j)).2)).length
theorem cellAt_lt {k n i j : Nat} (hi : i < n) (hj : j < n) : (cellAt k (i, j)).1 < n ∧ (cellAt k (i, j)).2 < n := by unfold cellAt; split <;> exact ⟨by assumption, by assumption⟩
theorem rank_at {k n i j : Nat} (hi : i < n) (hj : j < n) (h : tells k i j = true) : (places k n)[rank k n i j]? = some (i, j) := by
  obtain ⟨h1, h2⟩ := cellAt_lt (k := k) hi hj
  have h3 : cellAt k ((cellAt k (i, j)).1, (cellAt k (i, j)).2) = (i, j) := cellAt_cellAt k (i, j)
  have := places_at (k := k) h1 h2 (by rw [h3]; exact h)
  rw [h3] at this
  exact this
theorem rank_lt {k n i j : Nat} (hi : i < n) (hj : j < n) (h : tells k i j = true) : rank k n i j < (places k n).length := by
  obtain ⟨h1, _⟩ := List.getElem?_eq_some_iff.1 (rank_at hi hj h); exact h1
theorem rank_inj {k n i j p q : Nat} (hi : i < n) (hj : j < n) (hp : p < n) (hq : q < n) (h : tells k i j = true) (g : tells k p q = true) (e : rank k n i j = rank k n p q) : i = p ∧ j = q := by
  have h1 := rank_at hi hj h
  have h2 := rank_at hp hq g
  rw [e, h2] at h1
  have := Option.some.inj h1
  cases this
  exact ⟨rfl, rfl⟩
theorem rank_all {k n c : Nat} (hc : c < (places k n).length) : ∃ i j, i < n ∧ j < n ∧ tells k i j = true ∧ rank k n i j = c := by
  obtain ⟨⟨i, j⟩, h⟩ : ∃ q, (places k n)[c]? = some q := ⟨_, List.getElem?_eq_getElem hc⟩
  have hm := mem_places.1 (List.mem_of_getElem? h)
  refine ⟨i, j, hm.1.1, hm.1.2, hm.2, ?_⟩
  have h2 := rank_at hm.1.1 hm.1.2 hm.2
  exact ((List.getElem?_inj hc (places_nodup k n)).1 (by rw [h, h2])).symm
/-- The index of row i and column j, either way round. -/
def index (k n i j : Nat) : Int := if tells k i j = true then (rank k n i j : Int) else if tells k j i = true then (rank k n j i : Int) else -1
theorem index_swap {k n i j : Nat} (hk : k ≠ 1) (hk1 : 1 ≤ k) (hk7 : k ≤ 7) : index k n j i = index k n i j := by
  unfold index
  by_cases h : i = j
  · subst h; rfl
  · by_cases h1 : tells k i j = true
    · have h2 : ¬ tells k j i = true := by
        unfold tells at h1 ⊢
        rcases (show k = 2 ∨ k = 3 ∨ k = 4 ∨ k = 5 ∨ k = 6 ∨ k = 7 by omega) with rfl | rfl | rfl | rfl | rfl | rfl <;> simp at h1 ⊢ <;> omega
      simp [h1, h2]
    · by_cases h2 : tells k j i = true
      · simp [h1, h2]
      · simp [h1, h2]
/-! Matrices, and what is told of them. -/
def cell (m : List Int) (n i j : Nat) : Int := m.getD (i * n + j) 0
/-- The number of row i and column j of the matrix that l tells. -/
def val (l : List Int) (k n i j : Nat) : Int := if tells k i j = true then l.getD (rank k n i j) 0 else if tells k j i = true then l.getD (rank k n j i) 0 else 0
def grid (n : Nat) (f : Nat → Nat → Int) : List Int := (pairs n).map fun p => f p.1 p.2
def unpack (k n : Nat) (l : List Int) : List Int := grid n (val l k n)
def pack (k n : Nat) (m : List Int) : List Int := (places k n).map fun q => cell m n q.1 q.2
/-- Is the number of row i and column j one that a layout can't tell? -/
def bad (k n : Nat) (m : List Int) (i j : Nat) : Bool := (decide (k ≠ 1) && decide (cell m n i j ≠ cell m n j i)) || (decide (i = j) && (!tells k i i && decide (cell m n i i ≠ 0)))

theorem grid_length (n : Nat) (f : Nat → Nat → Int) : (grid n f).length = n * n := by simp [grid, pairs]
theorem grid_get {n i j : Nat} (f : Nat → Nat → Int) (hi : i < n) (hj : j < n) : (grid n f)[i * n + j]? = some (f i j) := by
  simp [grid, pairs_get hi hj]
theorem cell_grid {n i j : Nat} (f : Nat → Nat → Int) (hi : i < n) (hj : j < n) : cell (grid n f) n i j = f i j := by
  simp [cell, List.getD, grid_get f hi hj]
theorem step_of {n x : Nat} (hx : x < n * n) : x / n < n ∧ x % n < n ∧ x / n * n + x % n = x := by
  have hn : 0 < n := by rcases Nat.eq_zero_or_pos n with h0 | h0; · subst h0; simp at hx
                        · exact h0
  exact ⟨(Nat.div_lt_iff_lt_mul hn).2 hx, Nat.mod_lt _ hn, by rw [Nat.mul_comm]; exact Nat.div_add_mod x n⟩
/-- Lists of n times n numbers are the same if their cells are. -/
theorem ext_cells {n : Nat} {l r : List Int} (hl : l.length = n * n) (hr : r.length = n * n) (h : ∀ i j, i < n → j < n → l[i * n + j]? = r[i * n + j]?) : l = r := by
  apply List.ext_getElem?
  intro x
  by_cases hx : x < n * n
  · obtain ⟨h1, h2, h3⟩ := step_of hx
    have := h _ _ h1 h2
    rwa [h3] at this
  · rw [List.getElem?_eq_none (by omega), List.getElem?_eq_none (by omega)]
theorem grid_ext {n : Nat} {f g : Nat → Nat → Int} (h : ∀ i j, i < n → j < n → f i j = g i j) : grid n f = grid n g :=
  ext_cells (grid_length n f) (grid_length n g) fun i j hi hj => by rw [grid_get f hi hj, grid_get g hi hj, h i j hi hj]
theorem step_inj {n i j p q : Nat} (hj : j < n) (hq : q < n) (h : i * n + j = p * n + q) : i = p ∧ j = q := by
  have h1 : (i * n + j) / n = (p * n + q) / n := by rw [h]
  have h2 : (i * n + j) % n = (p * n + q) % n := by rw [h]
  rw [div_step hj, div_step hq] at h1
  rw [mod_step hj, mod_step hq] at h2
  exact ⟨h1, h2⟩
theorem grid_set {n p q : Nat} (f : Nat → Nat → Int) (v : Int) (hp : p < n) (hq : q < n) : (grid n f).set (p * n + q) v = grid n fun i j => if i = p ∧ j = q then v else f i j := by
  refine ext_cells (by simp [grid_length]) (grid_length _ _) fun i j hi hj => ?_
  rw [grid_get _ hi hj, List.getElem?_set]
  by_cases h : i = p ∧ j = q
  · obtain ⟨rfl, rfl⟩ := h
    rw [if_pos rfl, if_pos (by rw [grid_length]; exact step_lt hi hj), if_pos ⟨rfl, rfl⟩]
  · rw [if_neg (fun e => h (by have := step_inj hq hj e; exact ⟨this.1.symm, this.2.symm⟩)), if_neg h, grid_get f hi hj]
theorem grid_zero (n : Nat) : grid n (fun _ _ => 0) = List.replicate (n * n) 0 := by
  refine ext_cells (grid_length _ _) (by simp) fun i j hi hj => ?_
  rw [grid_get _ hi hj, List.getElem?_replicate, if_pos (step_lt hi hj)]

theorem tells_none {k i j : Nat} (hk : 1 ≤ k) (hk7 : k ≤ 7) (h : ¬ tells k i j = true) (h2 : ¬ tells k j i = true) : i = j := by
  unfold tells at h h2
  rcases (show k = 1 ∨ k = 2 ∨ k = 3 ∨ k = 4 ∨ k = 5 ∨ k = 6 ∨ k = 7 by omega) with rfl | rfl | rfl | rfl | rfl | rfl | rfl <;> simp at h h2 <;> omega
theorem tells_both {k i j : Nat} (hk : k ≠ 1) (hk1 : 1 ≤ k) (hk7 : k ≤ 7) (h : tells k i j = true) (h2 : tells k j i = true) : i = j := by
  unfold tells at h h2
  rcases (show k = 2 ∨ k = 3 ∨ k = 4 ∨ k = 5 ∨ k = 6 ∨ k = 7 by omega) with rfl | rfl | rfl | rfl | rfl | rfl <;> simp at h h2 <;> omega
theorem tells_full (i j : Nat) : tells 1 i j = true := by simp [tells]
theorem val_swap {l : List Int} {k n i j : Nat} (hk : k ≠ 1) (hk1 : 1 ≤ k) (hk7 : k ≤ 7) : val l k n i j = val l k n j i := by
  by_cases h : i = j
  · subst h; rfl
  · unfold val
    by_cases h1 : tells k i j = true
    · have h2 : ¬ tells k j i = true := fun h2 => h (tells_both hk hk1 hk7 h1 h2)
      simp [h1, h2]
    · by_cases h2 : tells k j i = true
      · simp [h1, h2]
      · simp [h1, h2]

theorem unpack_fits {k n : Nat} (hk1 : 1 ≤ k) (hk7 : k ≤ 7) (l : List Int) {i j : Nat} (hi : i < n) (hj : j < n) : bad k n (unpack k n l) i j = false := by
  unfold bad unpack
  rw [cell_grid _ hi hj, cell_grid _ hj hi, cell_grid _ hi hi]
  have h1 : (decide (k ≠ 1) && decide (val l k n i j ≠ val l k n j i)) = false := by
    by_cases hk : k = 1
    · simp [hk]
    · simp [val_swap (l := l) (n := n) (i := i) (j := j) hk hk1 hk7]
  have h2 : (!tells k i i && decide (val l k n i i ≠ 0)) = false := by
    by_cases h : tells k i i = true
    · simp [h]
    · simp [val, h]
  rw [h1, h2]; simp
theorem pack_length (k n : Nat) (m : List Int) : (pack k n m).length = (places k n).length := by simp [pack]
theorem pack_rank {k n i j : Nat} (m : List Int) (hi : i < n) (hj : j < n) (h : tells k i j = true) : (pack k n m).getD (rank k n i j) 0 = cell m n i j := by
  simp [pack, List.getD, rank_at hi hj h]
theorem pack_unpack {k n : Nat} {l : List Int} (hl : l.length = (places k n).length) : pack k n (unpack k n l) = l := by
  apply List.ext_getElem?
  intro c
  by_cases hc : c < (places k n).length
  · obtain ⟨i, j, hi, hj, ht, hr⟩ := rank_all hc
    have h1 := rank_at hi hj ht
    rw [hr] at h1
    simp only [pack, List.getElem?_map, h1, Option.map_some]
    rw [unpack, cell_grid _ hi hj, val, if_pos ht, hr]
    simp [List.getD, List.getElem?_eq_getElem (show c < l.length by omega)]
  · rw [List.getElem?_eq_none (by rw [pack_length]; omega), List.getElem?_eq_none (by omega)]
theorem unpack_pack {k n : Nat} {m : List Int} (hk1 : 1 ≤ k) (hk7 : k ≤ 7) (hm : m.length = n * n) (hf : ∀ i j, i < n → j < n → bad k n m i j = false) : unpack k n (pack k n m) = m := by
  refine ext_cells (grid_length _ _) hm fun i j hi hj => ?_
  rw [unpack, grid_get _ hi hj]
  have hc : m[i * n + j]? = some (cell m n i j) := by
    have := step_lt hi hj
    simp [cell, List.getD, List.getElem?_eq_getElem (show i * n + j < m.length by omega)]
  rw [hc]
  congr 1
  unfold val
  by_cases h1 : tells k i j = true
  · rw [if_pos h1, pack_rank m hi hj h1]
  · rw [if_neg h1]
    have hb := hf i j hi hj
    by_cases h2 : tells k j i = true
    · rw [if_pos h2, pack_rank m hj hi h2]
      have hk : k ≠ 1 := fun e => h1 (by rw [e]; exact tells_full i j)
      simp only [bad, Bool.or_eq_false_iff, Bool.and_eq_false_iff] at hb
      rcases hb.1 with h | h
      · exact absurd hk (by simpa using h)
      · have : cell m n i j = cell m n j i := by simpa using h
        exact this.symm
    · rw [if_neg h2]
      have e := tells_none hk1 hk7 h1 h2
      subst e
      simp only [bad, Bool.or_eq_false_iff] at hb
      have h3 : tells k i i = false := by simpa using h1
      have := hb.2
      rw [h3] at this
      have h4 : cell m n i i = 0 := by simpa using this
      exact h4.symm

/-! The loops of the document's own answer: step by step. -/
/-- Which step tells row i and column j. -/
def stepOf (k n i j : Nat) : Nat := (cellAt k (i, j)).1 * n + (cellAt k (i, j)).2
def valUpto (l : List Int) (k n s i j : Nat) : Int :=
  if tells k i j = true ∧ stepOf k n i j < s then l.getD (rank k n i j) 0
  else if k ≠ 1 ∧ tells k j i = true ∧ stepOf k n j i < s then l.getD (rank k n j i) 0 else 0
def matUpto (l : List Int) (k n s : Nat) : List Int := grid n (valUpto l k n s)
theorem matUpto_zero (l : List Int) (k n : Nat) : matUpto l k n 0 = List.replicate (n * n) 0 := by
  rw [← grid_zero]
  exact grid_ext fun i j _ _ => by simp [valUpto]
theorem stepOf_lt {k n i j : Nat} (hi : i < n) (hj : j < n) : stepOf k n i j < n * n := by
  obtain ⟨h1, h2⟩ := cellAt_lt (k := k) hi hj
  exact step_lt h1 h2
theorem matUpto_all (l : List Int) {k n : Nat} : matUpto l k n (n * n) = unpack k n l :=
  grid_ext fun i j hi hj => by
    have h1 := stepOf_lt (k := k) hi hj
    have h2 := stepOf_lt (k := k) hj hi
    unfold valUpto val
    by_cases h : tells k i j = true
    · simp [h, h1]
    · by_cases hk : k = 1
      · subst hk; exact absurd (tells_full i j) h
      · simp [h, hk, h2]
theorem stepOf_eq {k n i j a b : Nat} (hi : i < n) (hj : j < n) (hb : b < n) : stepOf k n i j = a * n + b ↔ (i, j) = cellAt k (a, b) := by
  obtain ⟨_, h2⟩ := cellAt_lt (k := k) hi hj
  constructor
  · intro h
    have h3 := step_inj h2 hb h
    have h4 : cellAt k (i, j) = (a, b) := Prod.ext h3.1 h3.2
    rw [← h4, cellAt_cellAt]
  · intro h
    unfold stepOf
    rw [h, cellAt_cellAt]
theorem matUpto_none {l : List Int} {k n a b : Nat} (hb : b < n) (h : told k a b = false) : matUpto l k n (a * n + b + 1) = matUpto l k n (a * n + b) :=
  grid_ext fun i j hi hj => by
    have key : ∀ p q, p < n → q < n → tells k p q = true → (stepOf k n p q < a * n + b + 1 ↔ stepOf k n p q < a * n + b) := by
      intro p q hp hq ht
      have : stepOf k n p q ≠ a * n + b := fun e => by
        have e2 := (stepOf_eq hp hq hb).1 e
        unfold told at h
        rw [← e2] at h
        rw [ht] at h
        cases h
      omega
    unfold valUpto
    have e1 : (tells k i j = true ∧ stepOf k n i j < a * n + b + 1) ↔ (tells k i j = true ∧ stepOf k n i j < a * n + b) := by
      constructor
      · exact fun h => ⟨h.1, (key i j hi hj h.1).1 h.2⟩
      · exact fun h => ⟨h.1, (key i j hi hj h.1).2 h.2⟩
    have e2 : (k ≠ 1 ∧ tells k j i = true ∧ stepOf k n j i < a * n + b + 1) ↔ (k ≠ 1 ∧ tells k j i = true ∧ stepOf k n j i < a * n + b) := by
      constructor
      · exact fun h => ⟨h.1, h.2.1, (key j i hj hi h.2.1).1 h.2.2⟩
      · exact fun h => ⟨h.1, h.2.1, (key j i hj hi h.2.1).2 h.2.2⟩
    simp only [e1, e2]
theorem rank_step {k n i j : Nat} : rank k n i j = (toldUpto k n (stepOf k n i j)).length := rfl
theorem matUpto_told {l : List Int} {k n a b i j : Nat} (hk1 : 1 ≤ k) (hk7 : k ≤ 7) (ha : a < n) (hb : b < n) (hc : cellAt k (a, b) = (i, j)) (h : told k a b = true) :
    matUpto l k n (a * n + b + 1) = if k = 1 then (matUpto l k n (a * n + b)).set (i * n + j) (l.getD (toldUpto k n (a * n + b)).length 0)
      else ((matUpto l k n (a * n + b)).set (i * n + j) (l.getD (toldUpto k n (a * n + b)).length 0)).set (j * n + i) (l.getD (toldUpto k n (a * n + b)).length 0) := by
  have hij : i < n ∧ j < n := by have := cellAt_lt (k := k) ha hb; rw [hc] at this; exact this
  have ht : tells k i j = true := by unfold told at h; rw [hc] at h; exact h
  have hs : stepOf k n i j = a * n + b := (stepOf_eq hij.1 hij.2 hb).2 hc.symm
  have hr : rank k n i j = (toldUpto k n (a * n + b)).length := by rw [rank_step, hs]
  have step : ∀ p q, p < n → q < n → (stepOf k n p q < a * n + b + 1 ↔ stepOf k n p q < a * n + b ∨ (p = i ∧ q = j)) := by
    intro p q hp hq
    have := stepOf_eq (k := k) (a := a) hp hq hb
    rw [hc, Prod.mk.injEq] at this
    omega
  rw [← hr]
  unfold matUpto
  by_cases hk : k = 1
  · rw [if_pos hk, grid_set _ _ hij.1 hij.2]
    refine grid_ext fun p q hp hq => ?_
    subst hk
    unfold valUpto
    simp only [tells_full, true_and, step p q hp hq, ne_eq, not_true_eq_false, false_and, if_false]
    by_cases e : p = i ∧ q = j
    · simp [e]
    · simp [e]
  · rw [if_neg hk, grid_set _ _ hij.1 hij.2, grid_set _ _ hij.2 hij.1]
    refine grid_ext fun p q hp hq => ?_
    unfold valUpto
    simp only [step p q hp hq, step q p hq hp]
    by_cases e1 : p = i ∧ q = j
    · obtain ⟨rfl, rfl⟩ := e1
      by_cases e2 : p = q
      · subst e2; simp [ht]
      · have : ¬ (p = q ∧ q = p) := fun e => e2 e.1
        simp [ht, this]
    · by_cases e2 : p = j ∧ q = i
      · obtain ⟨rfl, rfl⟩ := e2
        have hn : ¬ tells k p q = true := fun h3 => e1 (by have := tells_both hk hk1 hk7 h3 ht; exact ⟨this, this.symm⟩)
        simp [hn, hk, ht]
      · have e3 : ¬ (q = i ∧ p = j) := fun e => e2 ⟨e.2, e.1⟩
        simp only [e1, e2, e3, or_false, if_false, hk, ne_eq, not_false_eq_true, true_and]
/-- What is packed behind the first s steps. -/
def packUpto (m : List Int) (k n s : Nat) : List Int := (toldUpto k n s).map fun q => cell m n q.1 q.2
theorem packUpto_zero (m : List Int) (k n : Nat) : packUpto m k n 0 = [] := by simp [packUpto, toldUpto_zero]
theorem packUpto_all (m : List Int) (k n : Nat) : packUpto m k n (n * n) = pack k n m := by simp [packUpto, pack, toldUpto_all]
theorem packUpto_next {m : List Int} {k n a b i j : Nat} (ha : a < n) (hb : b < n) (hc : cellAt k (a, b) = (i, j)) :
    packUpto m k n (a * n + b + 1) = packUpto m k n (a * n + b) ++ if told k a b = true then [cell m n i j] else [] := by
  unfold packUpto told
  rw [toldUpto_next ha hb, hc]
  by_cases h : tells k i j = true <;> simp [h]
/-- May a matrix be told in a layout? -/
def fits (k n : Nat) (m : List Int) : Prop := ∀ i j, i < n → j < n → bad k n m i j = false
def fitsUpto (k n : Nat) (m : List Int) (s : Nat) : Prop := ∀ i j, i < n → j < n → stepOf k n i j < s → bad k n m i j = false
theorem fitsUpto_zero (k n : Nat) (m : List Int) : fitsUpto k n m 0 := fun _ _ _ _ h => absurd h (by omega)
theorem fitsUpto_all {k n : Nat} {m : List Int} : fitsUpto k n m (n * n) ↔ fits k n m := ⟨fun h i j hi hj => h i j hi hj (stepOf_lt hi hj), fun h i j hi hj _ => h i j hi hj⟩
theorem fitsUpto_next {k n a b i j : Nat} {m : List Int} (hb : b < n) (hc : cellAt k (a, b) = (i, j)) (h : fitsUpto k n m (a * n + b)) (hg : bad k n m i j = false) : fitsUpto k n m (a * n + b + 1) := by
  intro p q hp hq hs
  by_cases e : stepOf k n p q = a * n + b
  · have := (stepOf_eq hp hq hb).1 e
    rw [hc] at this
    cases this
    exact hg
  · exact h p q hp hq (by omega)
theorem not_fits {k n a b i j : Nat} {m : List Int} (ha : a < n) (hb : b < n) (hc : cellAt k (a, b) = (i, j)) (hg : bad k n m i j = true) : ¬ fits k n m := fun h => by
  have hij : i < n ∧ j < n := by have := cellAt_lt (k := k) ha hb; rw [hc] at this; exact this
  rw [h i j hij.1 hij.2] at hg
  cases hg

/-! Upper rows are lower columns. -/
theorem rowUp_told {k k' : Nat} (h : ∀ a b, told k a b = told k' a b) (a b : Nat) : rowUp k a b = rowUp k' a b := by
  induction b with
  | zero => rfl
  | succ b ih => rw [rowUp, rowUp, ih, h]
theorem rowsUp_told {k k' : Nat} (h : ∀ a b, told k a b = told k' a b) (n a : Nat) : rowsUp k n a = rowsUp k' n a := by
  induction a with
  | zero => rfl
  | succ a ih => rw [rowsUp, rowsUp, ih, rowUp_told h]
theorem rank_turn {k k' n i j : Nat} (h : ∀ a b, told k a b = told k' a b) (hc : cellAt k (i, j) = cellAt k' (j, i)) (hi : i < n) (hj : j < n) : rank k n i j = rank k' n j i := by
  unfold rank
  obtain ⟨h1, h2⟩ := cellAt_lt (k := k) hi hj
  rw [← hc, len_at h1 (by omega), len_at h1 (by omega), rowsUp_told h, rowUp_told h]
theorem unpack_turn {k k' n : Nat} (l : List Int) (hk : k' ≠ 1) (hk1 : 1 ≤ k') (hk7 : k' ≤ 7) (h : ∀ a b, told k a b = told k' a b) (hc : ∀ i j, cellAt k (i, j) = cellAt k' (j, i)) (ht : ∀ i j, tells k i j = tells k' j i) : unpack k n l = unpack k' n l :=
  grid_ext fun i j hi hj => by
    rw [val_swap (k := k') hk hk1 hk7]
    unfold val
    rw [ht i j, ht j i, rank_turn h (hc i j) hi hj, rank_turn h (hc j i) hj hi]
theorem unpack_seven (n : Nat) (l : List Int) : unpack 7 n l = unpack 2 n l :=
  unpack_turn l (by omega) (by omega) (by omega) (fun a b => by rw [told_up (.inr rfl), told_up (.inl rfl)]) (fun i j => by simp [cellAt]) (fun i j => by simp [tells])
theorem unpack_six (n : Nat) (l : List Int) : unpack 6 n l = unpack 3 n l :=
  unpack_turn l (by omega) (by omega) (by omega) (fun a b => by rw [told_low (.inr rfl), told_low (.inl rfl)]) (fun i j => by simp [cellAt]) (fun i j => by simp [tells])
/-- A matrix of upper rows may be told in every layout but the one of all. -/
theorem upper_fits {k n : Nat} (l : List Int) : fits k n (unpack 2 n l) := by
  intro i j hi hj
  have h := unpack_fits (k := 2) (by omega) (by omega) l hi hj
  have h0 := unpack_fits (k := 2) (by omega) (by omega) l hi hi
  simp only [bad, Bool.or_eq_false_iff] at h h0
  have e1 : cell (unpack 2 n l) n i j = cell (unpack 2 n l) n j i := by simpa using h.1
  have e2 : cell (unpack 2 n l) n i i = 0 := by have := h0.2; simp [tells] at this; exact this
  simp [bad, e1, e2]
theorem count_up (n : Nat) : count 4 n = count 2 n + n := by
  have h1 := tri_half n
  have h2 := tri_half' n
  simp only [count] at *
  simp
  rw [h1, h2, tri]

/-! Each place once. -/
/-- How many of the first s steps stand at place x, mirrored ones once. -/
def hits (k n s x : Nat) : Nat := ((pairs n).take s).countP fun p => (decide (p.1 ≤ p.2) || decide (k = 1)) && decide (index k n p.1 p.2 = (x : Int))
theorem hits_zero (k n x : Nat) : hits k n 0 x = 0 := by simp [hits]
theorem hits_next {k n a b x : Nat} (ha : a < n) (hb : b < n) :
    hits k n (a * n + b + 1) x = hits k n (a * n + b) x + if ((decide (a ≤ b) || decide (k = 1)) && decide (index k n a b = (x : Int))) = true then 1 else 0 := by
  unfold hits
  rw [List.take_add_one, pairs_get ha hb, Option.toList_some, List.countP_append, List.countP_singleton]
theorem countP_one {α : Type} {l : List α} {P : α → Bool} {x : α} (hl : l.Nodup) (hx : x ∈ l) (hP : P x = true) (hu : ∀ y ∈ l, P y = true → y = x) : l.countP P = 1 := by
  induction l with
  | nil => cases hx
  | cons y r ih =>
    rw [List.nodup_cons] at hl
    rcases List.mem_cons.1 hx with rfl | hx'
    · rw [List.countP_cons_of_pos hP]
      have : r.countP P = 0 := by
        rw [List.countP_eq_zero]
        intro z hz hPz
        exact hl.1 (hu z (List.mem_cons_of_mem _ hz) hPz ▸ hz)
      omega
    · have hy : ¬ P y = true := fun h => hl.1 (hu y (List.mem_cons_self ..) h ▸ hx')
      rw [List.countP_cons_of_neg hy]
      exact ih hl.2 hx' fun z hz h => hu z (List.mem_cons_of_mem _ hz) h
theorem index_told {k n i j : Nat} (h : tells k i j = true) : index k n i j = (rank k n i j : Int) := by unfold index; rw [if_pos h]
theorem hits_all {k n x : Nat} (hk1 : 1 ≤ k) (hk7 : k ≤ 7) (hx : x < (places k n).length) : hits k n (n * n) x = 1 := by
  obtain ⟨p, q, hp, hq, ht, hr⟩ := rank_all hx
  have hI : index k n p q = (x : Int) := by rw [index_told ht, hr]
  unfold hits
  rw [List.take_of_length_le (by rw [pairs_length]; exact Nat.le_refl _)]
  have uniq : ∀ a b, a < n → b < n → index k n a b = (x : Int) → (a = p ∧ b = q) ∨ (k ≠ 1 ∧ a = q ∧ b = p) := by
    intro a b ha hb h
    unfold index at h
    by_cases h1 : tells k a b = true
    · rw [if_pos h1] at h
      exact .inl (rank_inj ha hb hp hq h1 ht (by omega))
    · rw [if_neg h1] at h
      have hk : k ≠ 1 := fun e => h1 (by rw [e]; exact tells_full a b)
      by_cases h2 : tells k b a = true
      · rw [if_pos h2] at h
        have := rank_inj hb ha hp hq h2 ht (by omega)
        exact .inr ⟨hk, this.2, this.1⟩
      · rw [if_neg h2] at h; omega
  by_cases hk : k = 1
  · refine countP_one (x := (p, q)) (pairs_nodup n) (mem_pairs.2 ⟨hp, hq⟩) (by simp [hk]; rw [← hk]; exact hI) ?_
    rintro ⟨a, b⟩ hm h
    have hab := mem_pairs.1 hm
    simp only [Bool.and_eq_true, decide_eq_true_eq] at h
    rcases uniq a b hab.1 hab.2 h.2 with ⟨rfl, rfl⟩ | ⟨h3, _⟩
    · rfl
    · exact absurd hk h3
  · by_cases hpq : p ≤ q
    · refine countP_one (x := (p, q)) (pairs_nodup n) (mem_pairs.2 ⟨hp, hq⟩) (by simp [hpq, hI]) ?_
      rintro ⟨a, b⟩ hm h
      have hab := mem_pairs.1 hm
      simp only [Bool.and_eq_true, Bool.or_eq_true, decide_eq_true_eq] at h
      rcases uniq a b hab.1 hab.2 h.2 with ⟨rfl, rfl⟩ | ⟨_, rfl, rfl⟩
      · rfl
      · have : a = b := by omega
        subst this; rfl
    · refine countP_one (x := (q, p)) (pairs_nodup n) (mem_pairs.2 ⟨hq, hp⟩) (by simp [index_swap hk hk1 hk7, hI]; exact .inl (by omega)) ?_
      rintro ⟨a, b⟩ hm h
      have hab := mem_pairs.1 hm
      simp only [Bool.and_eq_true, Bool.or_eq_true, decide_eq_true_eq] at h
      rcases uniq a b hab.1 hab.2 h.2 with ⟨rfl, rfl⟩ | ⟨_, rfl, rfl⟩
      · omega
      · rfl
#print axioms pack_unpack
#print axioms unpack_pack
#print axioms matUpto_told
#print axioms upper_fits
#print axioms hits_all
end Go.Layout
/- The document's own answers for layer 7 on places: may, tells, row, column, at, Index, Count. Conditions: where a layout is asked of, that it is one. -/
namespace Go.Layout
def mayB (k n : Int) : Bool := (decide (1 ≤ k) && decide (k ≤ 7)) && (decide (1 ≤ n) && decide (n ≤ 400))
theorem mayB_true {k n : Int} (h : mayB k n = true) : (1 ≤ k ∧ k ≤ 7) ∧ 1 ≤ n ∧ n ≤ 400 := by simpa [mayB] using h
theorem mayB_nat {k n : Nat} (h1 : 1 ≤ k) (h2 : k ≤ 7) (h3 : 1 ≤ n) (h4 : n ≤ 400) : mayB k n = true := by simp [mayB]; omega
theorem rowUp_le (k a b : Nat) : rowUp k a b ≤ b := by
  induction b with
  | zero => exact Nat.le_refl _
  | succ b ih => rw [rowUp]; split <;> omega
theorem rowsUp_le (k n a : Nat) : rowsUp k n a ≤ a * n := by
  induction a with
  | zero => simp [rowsUp]
  | succ a ih => have := rowUp_le k a n; rw [rowsUp, Nat.add_mul]; omega
theorem told_row {k a b : Nat} (hk : k ≠ 6) (hk2 : k ≠ 7) : told k a b = tells k a b := by simp [told, cellAt, hk, hk2]
theorem told_col {k a b : Nat} (hk : k = 6 ∨ k = 7) : told k a b = tells k b a := by simp [told, cellAt, hk]
theorem rank_row {k n i j : Nat} (hk : k ≠ 6) (hk2 : k ≠ 7) (hi : i < n) (hj : j < n) : rank k n i j = rowsUp k n i + rowUp k i j := by
  unfold rank
  have : cellAt k (i, j) = (i, j) := by simp [cellAt, hk, hk2]
  rw [this, len_at hi (by omega)]
theorem rank_col {k n i j : Nat} (hk : k = 6 ∨ k = 7) (hi : i < n) (hj : j < n) : rank k n i j = rowsUp k n j + rowUp k j i := by
  unfold rank
  have : cellAt k (i, j) = (j, i) := by simp [cellAt, hk]
  rw [this, len_at hj (by omega)]
end Go.Layout
namespace Go.Proofs
open Go.RowKit Go.Shelf Go.Layout
attribute [local go_sem] Oper.semAt_some

theorem lret_is {a b : Bool} (h : a = b) : Ending.returned (.bool a) = .returned (.bool b) := by rw [h]
theorem lret_num {a b : Int} (h : a = b) : Ending.returned (.int .i64 a) = .returned (.int .i64 b) := by rw [h]



end Go.Proofs
/- Slices of ints: what they hold; the document's own Ints of layer 7. Conditions: at most two million numbers. -/
namespace Go.Proofs
open Go.RowKit Go.Shelf Go.Layout
attribute [local go_sem] Oper.semAt_some

/-- The cells of a list's numbers, from an address on. -/
def IntAt (W : World) (b off : Nat) (l : List Int) : Prop := b < W.heap.size ∧ ∀ i x, l[i]? = some x → W.cell? ⟨b, off + i, none⟩ = some (.int .i64 x)
/-- A slice that reads as l. -/
def HasInts (W : World) (v : Value) (l : List Int) : Prop := (l = [] ∧ ∃ ao cap, v = .slice ao 0 cap) ∨ ∃ b off cap, v = .slice (some ⟨b, off, none⟩) l.length cap ∧ l.length ≤ cap ∧ cap ≤ maxLen ∧ IntAt W b off l
theorem IntAt.below {B b off : Nat} {W W' : World} {l : List Int} (h : IntAt W b off l) (hb : Below B W W') (hlt : b < B) : IntAt W' b off l :=
  ⟨Nat.lt_of_lt_of_le h.1 hb.size, fun i x hi => (hb.cell (p := ⟨b, off + i, none⟩) hlt).trans (h.2 i x hi)⟩
theorem IntAt.next {b off : Nat} {W W' : World} {l : List Int} (h : IntAt W b off l) (hb : Below W.heap.size W W') : IntAt W' b off l := h.below hb h.1
theorem HasInts.next {W W' : World} {v : Value} {l : List Int} (h : HasInts W v l) (hb : Below W.heap.size W W') : HasInts W' v l := by
  rcases h with h | ⟨b, off, cap, h1, h2, h3, h4⟩
  · exact .inl h
  · exact .inr ⟨b, off, cap, h1, h2, h3, h4.next hb⟩
theorem HasInts.nil (W : World) : HasInts W (.slice none 0 0) [] := .inl ⟨rfl, none, 0, rfl⟩
theorem HasInts.len {W : World} {v : Value} {l : List Int} (h : HasInts W v l) : ∃ ao cap, v = .slice ao l.length cap := by
  rcases h with ⟨rfl, ao, cap, rfl⟩ | ⟨b, off, cap, rfl, _⟩
  · exact ⟨ao, cap, rfl⟩
  · exact ⟨_, cap, rfl⟩
def intV (x : Int) : Value := .int .i64 x
theorem hasInts_of_owns {W : World} {base : Nat} {e : TypeId} {v : Value} {l : List Int} (h : W.ownsRow base e 1 v l.length (l.map intV)) : HasInts W v l := by
  rcases h.2 with ⟨rfl, h0⟩ | ⟨g, cap, cur, rfl, h1, h2, h3, h4, _⟩
  · exact .inl ⟨List.eq_nil_of_length_eq_zero h0, none, 0, rfl⟩
  · refine .inr ⟨g, 0, cap, rfl, h3, h4, (Array.getElem?_eq_some_iff.1 h2).1, fun i x hi => ?_⟩
    have hlt : i < l.length := (List.getElem?_eq_some_iff.1 hi).1
    rw [Nat.zero_add, World.ownsRow.cellAt h i (by omega)]
    simp [hi, intV]

theorem lbelow_drewN {B : Nat} {a w : World} (h : Below B a w) (n : Nat) : Below B a (w.drewN n) := ⟨h.os, h.tape, h.output, h.size, h.block⟩
theorem take_same {l r : List Int} {k : Nat} {x y : Int} (hl : l[k]? = some x) (hr : r[k]? = some y) (h : l.take k = r.take k) : l.take (k + 1) = r.take (k + 1) ↔ x = y := by
  rw [List.take_add_one, List.take_add_one, hl, hr, h]
  simp
theorem ne_at {l r : List Int} {k : Nat} {x y : Int} (hl : l[k]? = some x) (hr : r[k]? = some y) (h : x ≠ y) : l ≠ r := fun e => h (by rw [e, hr] at hl; exact (Option.some.inj hl).symm)

set_option maxRecDepth 100000 in
set_option maxHeartbeats 1000000 in
theorem Try.RInts_some (b off cap b' off' cap' : Nat) (l r : List Int) (w : World) (hl : l.length ≤ 2000000) (he : l.length = r.length) (hv : IntAt w b off l) (hu : IntAt w b' off' r) :
    Calls Try.prog 10 #[.slice (some ⟨b, off, none⟩) l.length cap, .slice (some ⟨b', off', none⟩) r.length cap'] w fun e w' => e = .returned (.bool (decide (l = r))) ∧ Below w.heap.size w w' := by
  have HV := Lib.hid hv
  have HU := Lib.hid hu
  rw [← he]
  obtain ⟨n, hn⟩ : ∃ n, l.length = n := ⟨_, rfl⟩
  rw [hn] at hl he ⊢
  have HN := Lib.hid hn
  have HE := Lib.hid he
  clear hn he hv hu
  go_enter Try.func10, Try.ntmps10
  go_wp2
  go_loopw [5] (fun i wr => ∃ k : Nat, k ≤ n ∧ i = .int .i64 (k : Int) ∧ Hid (l.take k = r.take k) ∧ Below w.heap.size w wr) (fun i _ => n - (intOf i).toNat)
  case atStart => exact ⟨0, Nat.zero_le _, rfl, rfl, Below.refl _ _⟩
  case round =>
    obtain ⟨k, hk, rfl, hT, hB⟩ := hrel
    by_cases hlt : k < n
    · obtain ⟨x, hx⟩ : ∃ x, l[k]? = some x := ⟨_, List.getElem?_eq_getElem (by have := HN.out; omega)⟩
      obtain ⟨y, hy⟩ : ∃ y, r[k]? = some y := ⟨_, List.getElem?_eq_getElem (by have := HE.out; omega)⟩
      have x0 := (hB.cell (p := ⟨b, off + k, none⟩) HV.out.1).trans (HV.out.2 k x hx)
      have y0 := (hB.cell (p := ⟨b', off' + k, none⟩) HU.out.1).trans (HU.out.2 k y hy)
      have hki : (k : Int) < (n : Int) := by omega
      by_cases hxy : x = y
      · subst hxy
        have d : (x != x) = false := bne_self_eq_false x
        have HT := Lib.hid ((take_same hx hy hT.out).2 rfl)
        clear hx hy hT
        go_wp2
        go_quiet (fail)
        go_wp2
        go_roundw
        case rel => exact ⟨k + 1, by omega, by go_num, HT, lbelow_drewN hB _⟩
        case measure => simp [intOf]; omega
      · have d : (x != y) = true := bne_iff_ne.2 hxy
        have HF := Lib.hid (decide_eq_false (ne_at hx hy hxy))
        clear hx hy hT hxy
        go_wp2
        go_quiet (fail)
        go_wp2
        go_ret
        exact ⟨lret_is HF.out.symm, lbelow_drewN hB _⟩
    · obtain rfl : k = n := by omega
      have HF : Hid (decide (l = r) = true) := by
        unfold Hid
        have h := hT.out
        rw [List.take_of_length_le (by have := HN.out; omega), List.take_of_length_le (by have := HE.out; omega)] at h
        exact decide_eq_true h
      go_wp2
      go_ret
      exact ⟨lret_is HF.out.symm, hB⟩

set_option maxRecDepth 100000 in
theorem Try.RInts_far (ao ao' : Option Addr) (n n' cap cap' : Nat) (w : World) (h : n ≠ n') :
    Calls Try.prog 10 #[.slice ao n cap, .slice ao' n' cap'] w fun e w' => e = .returned (.bool false) ∧ w' = w := by
  have d : ((n : Int) != (n' : Int)) = true := bne_iff_ne.2 (by omega)
  go_enter Try.func10, Try.ntmps10
  go_wp2
  go_ret
  exact ⟨rfl, rfl⟩
set_option maxRecDepth 100000 in
theorem Try.RInts_nil (ao ao' : Option Addr) (cap cap' : Nat) (w : World) :
    Calls Try.prog 10 #[.slice ao 0 cap, .slice ao' 0 cap'] w fun e w' => e = .returned (.bool true) ∧ w' = w := by
  go_enter Try.func10, Try.ntmps10
  go_wp2
  go_loop [5] (fun i => i = .int .i64 0) (fun _ => 0)
  case atStart => rfl
  case round =>
    obtain rfl := hrel
    go_wp2
    go_ret
    exact ⟨rfl, rfl⟩
theorem Try.RInts_calls (v u : Value) (l r : List Int) (w : World) (hl : l.length ≤ 2000000) (hv : HasInts w v l) (hu : HasInts w u r) :
    Calls Try.prog 10 #[v, u] w fun e w' => e = .returned (.bool (decide (l = r))) ∧ Below w.heap.size w w' := by
  by_cases he : l.length = r.length
  · rcases hv with ⟨rfl, ao, cap, rfl⟩ | ⟨b, off, cap, rfl, _, _, hv⟩
    · have hr : r = [] := List.eq_nil_of_length_eq_zero (by simpa using he.symm)
      subst hr
      obtain ⟨ao', cap', rfl⟩ := hu.len
      exact (Try.RInts_nil ao ao' cap cap' w).mono fun e w' ⟨h1, h2⟩ => ⟨by rw [h1]; rfl, h2 ▸ Below.refl _ _⟩
    · rcases hu with ⟨rfl, ao', cap', rfl⟩ | ⟨b', off', cap', rfl, _, _, hu⟩
      · have hr : l = [] := List.eq_nil_of_length_eq_zero (by simpa using he)
        subst hr
        exact (Try.RInts_nil _ ao' cap cap' w).mono fun e w' ⟨h1, h2⟩ => ⟨by rw [h1]; rfl, h2 ▸ Below.refl _ _⟩
      · exact Try.RInts_some b off cap b' off' cap' l r w hl he hv hu
  · obtain ⟨ao, cap, rfl⟩ := hv.len
    obtain ⟨ao', cap', rfl⟩ := hu.len
    exact (Try.RInts_far ao ao' _ _ cap cap' w he).mono fun e w' ⟨h1, h2⟩ => ⟨by rw [h1, decide_eq_false (fun e => he (by rw [e]))], h2 ▸ Below.refl _ _⟩
#print axioms Try.RInts_calls
end Go.Proofs
/- Slices of routes: what they hold. No program. -/
namespace Go.Proofs
open Go.RowKit Go.Plans
/-- A slice of slices of ints that read as rr, from an address on. -/
def RtsAt (W : World) (b off : Nat) (rr : Rts) : Prop := b < W.heap.size ∧ ∀ i l, rr[i]? = some l → ∃ v, W.cell? ⟨b, off + i, none⟩ = some v ∧ HasInts W v l
def HasRts (W : World) (v : Value) (rr : Rts) : Prop := (rr = [] ∧ ∃ ao cap, v = .slice ao 0 cap) ∨ ∃ b off cap, v = .slice (some ⟨b, off, none⟩) rr.length cap ∧ rr.length ≤ cap ∧ cap ≤ maxLen ∧ RtsAt W b off rr
/-- A plan whose routes read as rr. -/
def planV (v : Value) : Value := .agg #[v]
theorem RtsAt.next {b off : Nat} {W W' : World} {rr : Rts} (h : RtsAt W b off rr) (hb : Below W.heap.size W W') : RtsAt W' b off rr := by
  refine ⟨Nat.lt_of_lt_of_le h.1 hb.size, fun i l hi => ?_⟩
  obtain ⟨v, h1, h2⟩ := h.2 i l hi
  exact ⟨v, (hb.cell (p := ⟨b, off + i, none⟩) h.1).trans h1, h2.next hb⟩
theorem HasRts.next {W W' : World} {v : Value} {rr : Rts} (h : HasRts W v rr) (hb : Below W.heap.size W W') : HasRts W' v rr := by
  rcases h with h | ⟨b, off, cap, h1, h2, h3, h4⟩
  · exact .inl h
  · exact .inr ⟨b, off, cap, h1, h2, h3, h4.next hb⟩
theorem HasRts.len {W : World} {v : Value} {rr : Rts} (h : HasRts W v rr) : ∃ ao cap, v = .slice ao rr.length cap := by
  rcases h with ⟨rfl, ao, cap, rfl⟩ | ⟨b, off, cap, rfl, _⟩
  · exact ⟨ao, cap, rfl⟩
  · exact ⟨_, cap, rfl⟩
/-- A route in it, in any later world: its cell, and what it reads as. -/
theorem HasRts.get {B : Nat} {W W' : World} {v : Value} {rr : Rts} {i : Nat} {l : List Int} (h : HasRts W v rr) (hi : rr[i]? = some l) (hB : W.heap.size ≤ B) (hb : Below B W W') : ∃ b off cap u, v = .slice (some ⟨b, off, none⟩) rr.length cap ∧ b < B ∧ b < W'.heap.size ∧ W'.cell? ⟨b, off + i, none⟩ = some u ∧ HasInts W' u l := by
  rcases h with ⟨rfl, _⟩ | ⟨b, off, cap, h1, _, _, h4⟩
  · simp at hi
  · obtain ⟨u, h5, h6⟩ := h4.2 i l hi
    have hlt : b < B := Nat.lt_of_lt_of_le h4.1 hB
    refine ⟨b, off, cap, u, h1, hlt, Nat.lt_of_lt_of_le h4.1 hb.size, (hb.cell (p := ⟨b, off + i, none⟩) hlt).trans h5, h6.next (hb.mono hB)⟩
/-- A box of one value, of a call's own: what it holds, and that it stands. -/
def BoxAt (W : World) (B : Nat) (v : Value) : Prop := W.cell? ⟨B, 0, none⟩ = some v ∧ B < W.heap.size
theorem BoxAt.new (w : World) (v : Value) (t : TypeId) : BoxAt (w.alloc (.cells #[v] t)) w.heap.size v := by
  have e := World.alloc_heap_new w (.cells #[v] t)
  refine ⟨?_, by simp⟩
  unfold World.cell?; simp only [e]; rfl
theorem BoxAt.next {W W' : World} {B : Nat} {v : Value} (h : BoxAt W B v) (hb : Below W.heap.size W W') : BoxAt W' B v := ⟨(hb.cell (p := ⟨B, 0, none⟩) h.2).trans h.1, Nat.lt_of_lt_of_le h.2 hb.size⟩
theorem many_take {rr : Rts} {k : Nat} {l : List Int} (h : rr[k]? = some l) : many (rr.take (k + 1)) = many (rr.take k) + l.length := by
  rw [List.take_add_one, h, many_append]; simp [many]
theorem many_take_le (rr : Rts) (k : Nat) : many (rr.take k) ≤ many rr := by
  have h := many_append (rr.take k) (rr.drop k)
  rw [List.take_append_drop] at h; omega
end Go.Proofs
/- Plain facts on plans, told stop by stop; no program. -/
namespace Go.Plans
open Go.Proofs
theorem pflat_split {rr : Rts} {i : Nat} {l : List Int} (h : rr[i]? = some l) : rr = rr.take i ++ l :: rr.drop (i + 1) := by
  obtain ⟨hi, he⟩ := List.getElem?_eq_some_iff.1 h
  rw [← he, ← List.drop_eq_getElem_cons hi, List.take_append_drop]
theorem pflat_get {rr : Rts} {i j : Nat} {l : List Int} {s : Int} (h : rr[i]? = some l) (hj : l[j]? = some s) : rr.flatten[many (rr.take i) + j]? = some s := by
  have e := congrArg List.flatten (pflat_split h)
  rw [List.flatten_append, List.flatten_cons] at e
  rw [e, List.getElem?_append_right (by rw [← many_flat]; omega), ← many_flat, Nat.add_sub_cancel_left, List.getElem?_append_left (List.getElem?_eq_some_iff.1 hj).1, hj]
theorem pflat_take {rr : Rts} {i j : Nat} {l : List Int} (h : rr[i]? = some l) (hj : j ≤ l.length) : rr.flatten.take (many (rr.take i) + j) = (rr.take i).flatten ++ l.take j := by
  have e := congrArg List.flatten (pflat_split h)
  rw [List.flatten_append, List.flatten_cons] at e
  rw [e, List.take_append, ← many_flat, Nat.add_sub_cancel_left, List.take_of_length_le (by rw [← many_flat]; omega), List.take_append_of_le_length hj]
theorem place_here {s : Int} : ∀ {l : List Int} {j : Nat}, l[j]? = some s → s ∉ l.take j → place s l = some j
  | [], j, h, _ => by simp at h
  | a :: l, 0, h, _ => by
    have : a = s := by simpa using h
    simp [place, this]
  | a :: l, j + 1, h, hn => by
    rw [List.take_succ_cons, List.mem_cons, not_or] at hn
    unfold place
    rw [if_neg (fun e => hn.1 e.symm), place_here (l := l) (j := j) (by simpa using h) hn.2]
    rfl
theorem findR_flat {s : Int} {rr : Rts} {i j : Nat} {l : List Int} (h : rr[i]? = some l) (hj : l[j]? = some s) (hn : s ∉ rr.flatten.take (many (rr.take i) + j)) : findR s rr = some (i, j) := by
  have hjl : j ≤ l.length := Nat.le_of_lt (List.getElem?_eq_some_iff.1 hj).1
  rw [pflat_take h hjl, List.mem_append, not_or] at hn
  have hi := (List.getElem?_eq_some_iff.1 h).1
  rw [pflat_split h, findR_append, findR_none.2 hn.1, findR_cons, place_here hj hn.2]
  simp
  omega
theorem stops_flat (rr : Rts) : stopsIn rr = rr.flatten.all fun s => decide (0 ≤ s) && decide (s ≤ 399) := by
  unfold stopsIn
  rw [List.all_flatten]
/-- How often each number below n is in a list. -/
def cntL (l : List Int) (n : Nat) : List Int := (List.range n).map fun (c : Nat) => (l.count (c : Int) : Int)
theorem cntL_flat (rr : Rts) (n : Nat) : cntL rr.flatten n = countL rr n := by
  unfold cntL countL
  apply List.map_congr_left
  intro c _
  rw [countR_flat]
theorem cntL_length (l : List Int) (n : Nat) : (cntL l n).length = n := by simp [cntL]
theorem cntL_nil (n : Nat) : cntL [] n = List.replicate n 0 := by
  unfold cntL
  rw [List.eq_replicate_iff]
  exact ⟨by simp, fun b hb => by obtain ⟨c, _, rfl⟩ := List.mem_map.1 hb; simp⟩
theorem cntL_get (l : List Int) {n c : Nat} (h : c < n) : (cntL l n)[c]? = some (l.count (c : Int) : Int) := by
  simp [cntL, h]
theorem cntL_out (l : List Int) (n : Nat) {s : Int} (h : ¬ (0 ≤ s ∧ s < n)) : cntL (l ++ [s]) n = cntL l n := by
  unfold cntL
  apply List.map_congr_left
  intro c hc
  rw [List.mem_range] at hc
  have : ([s] : List Int).count (c : Int) = 0 := by
    rw [List.count_singleton, if_neg]
    intro e
    have := eq_of_beq e
    omega
  rw [List.count_append, this]; rfl
theorem cntL_in (l : List Int) (n : Nat) {c : Nat} (h : c < n) : cntL (l ++ [(c : Int)]) n = (cntL l n).set c ((l.count (c : Int) : Int) + 1) := by
  apply List.ext_getElem?
  intro k
  by_cases hk : k < n
  · rw [cntL_get _ hk, List.getElem?_set, cntL_length]
    by_cases e : c = k
    · subst e
      rw [if_pos rfl, if_pos h, List.count_append, List.count_singleton]
      simp
    · rw [if_neg e, cntL_get _ hk, List.count_append, List.count_singleton, if_neg]
      · rfl
      · intro e2
        have := eq_of_beq e2
        omega
  · rw [List.getElem?_eq_none (by rw [cntL_length]; omega), List.getElem?_eq_none (by rw [List.length_set, cntL_length]; omega)]
theorem ptake_snoc {l : List Int} {k : Nat} {s : Int} (h : l[k]? = some s) : l.take (k + 1) = l.take k ++ [s] := by rw [List.take_add_one, h]; rfl
#print axioms findR_flat
#print axioms cntL_in
end Go.Plans
/- Plain facts on roots of whole numbers, rounded; no program. Guesses at a root from above, the last of which is the root rounded down; quotients of roots by what they are compared with. -/
namespace Go.Root

/-- q is the root of n, rounded down. -/
def IsRoot (q n : Nat) : Prop := q * q ≤ n ∧ n < (q + 1) * (q + 1)

theorem sq_le {a b : Nat} (h : a ≤ b) : a * a ≤ b * b := Nat.mul_le_mul h h
theorem sq_lt {a b : Nat} (h : a < b) : a * a < b * b := Nat.mul_self_lt_mul_self h
theorem le_of_sq {a b : Nat} (h : a * a ≤ b * b) : a ≤ b := Nat.mul_self_le_mul_self_iff.1 h
theorem lt_of_sq {a b : Nat} (h : a * a < b * b) : a < b := Nat.mul_self_lt_mul_self_iff.1 h

theorem IsRoot.le_iff {q n : Nat} (h : IsRoot q n) (a : Nat) : a ≤ q ↔ a * a ≤ n :=
  ⟨fun g => Nat.le_trans (sq_le g) h.1, fun g => by have := lt_of_sq (Nat.lt_of_le_of_lt g h.2); omega⟩
theorem IsRoot.unique {q r n : Nat} (h : IsRoot q n) (k : IsRoot r n) : q = r :=
  Nat.le_antisymm ((k.le_iff q).2 h.1) ((h.le_iff r).2 k.1)

/-- The guesses from g on; f: how many more there may be. -/
def guessed (n : Nat) : Nat → Nat → List Nat
  | 0, _ => []
  | f + 1, g => g :: if n / g < g then guessed n f ((g + n / g) / 2) else []
/-- The first guess, and all of them. -/
def first (n : Nat) : Nat := 2 ^ ((Lib.bitLen n + 1) / 2)
def guesses (n : Nat) : List Nat := if n = 0 then [] else guessed n (first n) (first n)
/-- The root, rounded down. -/
def rt (n : Nat) : Nat := (guesses n).getLast?.getD 0

theorem half_lt {n g : Nat} (h : n / g < g) : (g + n / g) / 2 < g := by omega
theorem half_ge {n g r : Nat} (hr : r * r ≤ n) (hg : 0 < g) : r ≤ (g + n / g) / 2 := by
  rcases Nat.lt_or_ge g (2 * r) with h | h
  · have h1 : g * (2 * r - g) ≤ n := by
      refine Nat.le_trans ?_ hr
      obtain ⟨k, hk⟩ : ∃ k, 2 * r = g + k := ⟨2 * r - g, by omega⟩
      rw [hk, Nat.add_sub_cancel_left]
      have h2 : (g + k) * (g + k) = 4 * (r * r) := by rw [← hk, Nat.mul_mul_mul_comm]
      have h3 : 4 * (g * k) ≤ (g + k) * (g + k) := by
        rcases Nat.le_total g k with h4 | h4
        · obtain ⟨c, rfl⟩ := Nat.exists_eq_add_of_le h4
          have e1 : 4 * (g * (g + c)) = 4 * (g * g) + 4 * (g * c) := by rw [Nat.mul_add, Nat.mul_add]
          have e2 : (g + (g + c)) * (g + (g + c)) = 4 * (g * g) + 4 * (g * c) + c * c := by
            simp only [Nat.mul_add, Nat.add_mul, Nat.mul_comm c g]; omega
          omega
        · obtain ⟨c, rfl⟩ := Nat.exists_eq_add_of_le h4
          have e1 : 4 * ((k + c) * k) = 4 * (k * k) + 4 * (k * c) := by rw [Nat.add_mul, Nat.mul_add, Nat.mul_comm c k]
          have e2 : (k + c + k) * (k + c + k) = 4 * (k * k) + 4 * (k * c) + c * c := by
            simp only [Nat.mul_add, Nat.add_mul, Nat.mul_comm c k]; omega
          omega
      omega
    have h2 : 2 * r - g ≤ n / g := (Nat.le_div_iff_mul_le hg).2 (by rw [Nat.mul_comm]; exact h1)
    omega
  · generalize n / g = q
    omega
theorem stop_eq {n g r : Nat} (hr : IsRoot r n) (hg : 0 < g) (hge : r ≤ g) (h : ¬ n / g < g) : g = r := by
  have h1 : g ≤ n / g := by omega
  have h2 := (Nat.le_div_iff_mul_le hg).1 h1
  exact Nat.le_antisymm ((hr.le_iff g).2 h2) hge
theorem root_pos {r n : Nat} (h : IsRoot r n) (hn : 0 < n) : 0 < r := (h.le_iff 1).2 (by omega)

theorem guessed_ne {n f g : Nat} (hf : 0 < f) : guessed n f g ≠ [] := by
  obtain ⟨f, rfl⟩ : ∃ k, f = k + 1 := ⟨f - 1, by omega⟩
  simp [guessed]
theorem guessed_last {r n : Nat} (hr : IsRoot r n) (hn : 0 < n) : ∀ (f g : Nat), r ≤ g → g ≤ f → (guessed n f g).getLast? = some r := by
  intro f
  induction f with
  | zero => intro g h1 h2; have := root_pos hr hn; omega
  | succ f ih =>
    intro g h1 h2
    have hg : 0 < g := Nat.lt_of_lt_of_le (root_pos hr hn) h1
    simp only [guessed]
    by_cases h : n / g < g
    · have h3 := half_ge (n := n) (g := g) hr.1 hg
      have h4 := half_lt h
      have h5 := ih _ h3 (by omega)
      have h6 : guessed n f ((g + n / g) / 2) ≠ [] := guessed_ne (by have := root_pos hr hn; omega)
      rw [if_pos h, List.getLast?_cons]
      simp [h5]
    · rw [if_neg h, stop_eq hr hg h1 h]; rfl

theorem bitLen_above {n : Nat} (h0 : 0 < n) (h : n < 2 ^ 64) : n < 2 ^ Lib.bitLen n := (Lib.bitLenAux_bounds 64 n h (by omega)).2.2
theorem bitLen_most {n : Nat} (h : n ≤ 9223372036854775807) : Lib.bitLen n ≤ 63 := Lib.bitLen_le n 63 (by omega) (by omega)
theorem first_pos (n : Nat) : 0 < first n := Nat.two_pow_pos _
theorem first_le {n : Nat} (h : n ≤ 9223372036854775807) : first n ≤ 4294967296 := by
  have := bitLen_most h
  exact Nat.le_trans (Nat.pow_le_pow_right (by omega) (show (Lib.bitLen n + 1) / 2 ≤ 32 by omega)) (by decide)
theorem first_above {n : Nat} (h0 : 0 < n) (h : n < 2 ^ 64) : n < first n * first n := by
  refine Nat.lt_of_lt_of_le (bitLen_above h0 h) ?_
  rw [first, ← Nat.pow_add]
  exact Nat.pow_le_pow_right (by omega) (by omega)

theorem root_exists (n : Nat) : ∃ r, IsRoot r n := by
  induction n with
  | zero => exact ⟨0, by simp [IsRoot]⟩
  | succ n ih =>
    obtain ⟨r, h1, h2⟩ := ih
    by_cases h : n + 1 < (r + 1) * (r + 1)
    · exact ⟨r, by omega, h⟩
    · exact ⟨r + 1, by omega, Nat.lt_of_lt_of_le (show n + 1 < (r + 1) * (r + 1) + 1 by omega) (by have := sq_lt (show r + 1 < r + 1 + 1 by omega); omega)⟩
theorem rt_is {n : Nat} (h : n ≤ 9223372036854775807) : IsRoot (rt n) n := by
  obtain ⟨r, hr⟩ := root_exists n
  by_cases h0 : n = 0
  · subst h0; simp [rt, guesses, IsRoot]
  · have h1 : r ≤ first n := Nat.le_of_lt (lt_of_sq (Nat.lt_of_le_of_lt hr.1 (first_above (by omega) (by omega))))
    have := guessed_last hr (by omega) _ _ h1 (Nat.le_refl _)
    simpa [rt, guesses, h0, this] using hr

theorem rt_eq {n q : Nat} (h : n ≤ 9223372036854775807) (k : IsRoot q n) : rt n = q := (rt_is h).unique k
theorem le_rt {n : Nat} (h : n ≤ 9223372036854775807) (a : Nat) : a ≤ rt n ↔ a * a ≤ n := (rt_is h).le_iff a
theorem rt_lt {n : Nat} (h : n ≤ 9223372036854775807) (a : Nat) : rt n < a ↔ n < a * a := by
  have := le_rt h a; omega
theorem rt_most {n : Nat} (h : n ≤ 9223372036854775807) : rt n ≤ 3037000499 := by
  have := (rt_lt h 3037000500).2 (by omega); omega

/-- What the three quotients are. -/
def near (n d : Nat) : Nat := (rt (4 * n) / d + 1) / 2
def down (n m d : Nat) : Nat := rt (m * m * n) / d
def upto (a b : Nat) : Nat := (a + b - 1) / b
def ceiling (n : Nat) : Nat := if rt n * rt n < n then rt n + 1 else rt n
def ceil (n k d : Nat) : Nat := upto (ceiling (upto n k)) d

theorem upto_le {a b : Nat} (hb : 0 < b) (q : Nat) : upto a b ≤ q ↔ a ≤ q * b := by
  unfold upto
  rw [← Nat.lt_succ_iff, Nat.div_lt_iff_lt_mul hb, Nat.succ_mul]
  omega
theorem ceiling_le {n : Nat} (h : n ≤ 9223372036854775807) (q : Nat) : ceiling n ≤ q ↔ n ≤ q * q := by
  have h1 := rt_is h
  unfold ceiling
  have h2 := le_rt h (q + 1)
  have h3 := rt_lt h q
  have h4 := rt_lt h (q + 1)
  split
  · rename_i hlt
    constructor
    · intro g
      by_cases e : rt n + 1 = q
      · rw [← e]; exact Nat.le_of_lt h1.2
      · exact Nat.le_of_lt (h3.1 (by omega))
    · intro g
      have : ¬ q ≤ rt n := fun e => by have := sq_le e; omega
      omega
  · rename_i hge
    have he : n = rt n * rt n := by have := h1.1; omega
    constructor
    · intro g; rw [he]; exact sq_le g
    · intro g; rw [he] at g; exact le_of_sq g
theorem ceiling_most {n : Nat} (h : n ≤ 9000000000000000000) : ceiling n ≤ 3000000000 := (ceiling_le (by omega) _).2 (by omega)
theorem upto_most {a b c : Nat} (hb : 0 < b) (h : a ≤ c) : upto a b ≤ c := (upto_le hb c).2 (Nat.le_trans h (Nat.le_mul_of_pos_right c hb))

theorem le_near {n d : Nat} (hd : 0 < d) (h : 4 * n ≤ 9223372036854775807) (q : Nat) : q + 1 ≤ near n d ↔ (2 * q + 1) * d * ((2 * q + 1) * d) ≤ 4 * n := by
  rw [← le_rt h, ← Nat.le_div_iff_mul_le hd]
  unfold near
  omega
theorem le_down {n m d : Nat} (hd : 0 < d) (h : m * m * n ≤ 9223372036854775807) (q : Nat) : q ≤ down n m d ↔ q * d * (q * d) ≤ m * m * n := by
  rw [← le_rt h, ← Nat.le_div_iff_mul_le hd]
  rfl
theorem ceil_le {n k d : Nat} (hk : 0 < k) (hd : 0 < d) (h : n ≤ 9223372036854775807) (q : Nat) : ceil n k d ≤ q ↔ n ≤ k * (q * d * (q * d)) := by
  unfold ceil
  rw [upto_le hd, ceiling_le (upto_most hk h), upto_le hk, Nat.mul_comm]
#print axioms ceil_le
end Go.Root
/- More plain facts on roots and their quotients; no program: what they are at most, how they stand to each other, what is equal by what it is compared with, what rises. -/
namespace Go.Root
theorem rt_small {n : Nat} (h : n ≤ 80000000000000000) : rt n ≤ 282842713 := by
  have := (rt_lt (n := n) (by omega) 282842714).2 (by omega); omega
theorem down_le_near {n d : Nat} (hn : n ≤ 80000000000000000) (hd : 1 ≤ d) : down n 1 d ≤ near n d := by
  obtain h | ⟨q, h⟩ : down n 1 d = 0 ∨ ∃ q, down n 1 d = q + 1 := by
    cases hq : down n 1 d with
    | zero => exact .inl rfl
    | succ q => exact .inr ⟨q, rfl⟩
  · omega
  · rw [h, le_near hd (by omega)]
    have h1 := (le_down (n := n) (m := 1) hd (by omega) (q + 1)).1 (by omega)
    have h2 : (2 * q + 1) * d ≤ 2 * ((q + 1) * d) := by rw [← Nat.mul_assoc]; exact Nat.mul_le_mul_right d (by omega)
    have h3 := sq_le h2
    have h4 : 2 * ((q + 1) * d) * (2 * ((q + 1) * d)) = 4 * ((q + 1) * d * ((q + 1) * d)) := by rw [Nat.mul_mul_mul_comm]
    omega
theorem near_le_ceil {n d : Nat} (hn : n ≤ 80000000000000000) (hd : 1 ≤ d) : near n d ≤ ceil n 1 d := by
  obtain h | ⟨q, h⟩ : near n d = 0 ∨ ∃ q, near n d = q + 1 := by
    cases hq : near n d with
    | zero => exact .inl rfl
    | succ q => exact .inr ⟨q, rfl⟩
  · omega
  · have h1 := (le_near (n := n) hd (by omega) q).1 (by omega)
    have h2 : ¬ ceil n 1 d ≤ q := by
      rw [ceil_le (by omega) hd (by omega)]
      intro h3
      have h4 : 2 * (q * d) * (2 * (q * d)) = 4 * (q * d * (q * d)) := by rw [Nat.mul_mul_mul_comm]
      have h5 := le_of_sq (show (2 * q + 1) * d * ((2 * q + 1) * d) ≤ 2 * (q * d) * (2 * (q * d)) by omega)
      have h6 : (2 * q + 1) * d = 2 * (q * d) + d := by rw [Nat.add_mul, Nat.mul_assoc, Nat.one_mul]
      omega
    omega
theorem ceil_le_down {n d : Nat} (hn : n ≤ 80000000000000000) (hd : 1 ≤ d) : ceil n 1 d ≤ down n 1 d + 1 := by
  rw [ceil_le (by omega) hd (by omega)]
  have h1 := le_down (m := 1) hd (by omega) (down n 1 d + 1) (n := n)
  omega
theorem near_small {n d : Nat} (hn : n ≤ 80000000000000000) : near n d ≤ 600000000 := by
  have h1 : rt (4 * n) ≤ 565685425 := by
    have := (rt_lt (n := 4 * n) (by omega) 565685426).2 (by omega)
    omega
  have := Nat.div_le_self (rt (4 * n)) d
  unfold near
  omega
theorem down_small {n m d : Nat} (hn : m * m * n ≤ 8000000000000000000) : down n m d ≤ 3000000000 := by
  have h1 : rt (m * m * n) ≤ 2828427125 := by
    have := (rt_lt (n := m * m * n) (by omega) 2828427126).2 (by omega)
    omega
  have := Nat.div_le_self (rt (m * m * n)) d
  unfold down
  omega
theorem ceil_small {n k d : Nat} (hn : n ≤ 80000000000000000) (hk : 1 ≤ k) (hd : 1 ≤ d) : ceil n k d ≤ 300000000 := by
  rw [ceil_le hk hd (by omega)]
  have h1 : 300000000 * 1 ≤ 300000000 * d := Nat.mul_le_mul_left _ hd
  have h2 := sq_le h1
  have h3 := Nat.le_mul_of_pos_left (300000000 * d * (300000000 * d)) hk
  omega
theorem eq_of_le {a b : Nat} (h : ∀ q, q ≤ a ↔ q ≤ b) : a = b := Nat.le_antisymm ((h a).1 (Nat.le_refl _)) ((h b).2 (Nat.le_refl _))
theorem eq_of_next {a b : Nat} (h : ∀ q, q + 1 ≤ a ↔ q + 1 ≤ b) : a = b := eq_of_le fun q => by
  cases q with
  | zero => simp
  | succ q => exact h q
theorem eq_of_ge {a b : Nat} (h : ∀ q, a ≤ q ↔ b ≤ q) : a = b := Nat.le_antisymm ((h b).2 (Nat.le_refl _)) ((h a).1 (Nat.le_refl _))
theorem sq_le_iff {a b : Nat} : a * a ≤ b * b ↔ a ≤ b := ⟨le_of_sq, sq_le⟩
theorem sq_times (k x : Nat) : k * x * (k * x) = k * k * (x * x) := Nat.mul_mul_mul_comm k x k x

/-! Ten times as much. -/
theorem near_tens {n t : Nat} (hn : n ≤ 800000000000000) (ht : 1 ≤ t) : near (100 * n) (10 * t) = near n t := by
  refine eq_of_next fun q => ?_
  rw [le_near (by omega) (by omega), le_near ht (by omega), show (2 * q + 1) * (10 * t) = 10 * ((2 * q + 1) * t) from Nat.mul_left_comm _ _ _, sq_times]
  omega
theorem down_tens {n t : Nat} (hn : n ≤ 800000000000000) (ht : 1 ≤ t) : down (100 * n) 10 (10 * t) = down n 10 t := by
  refine eq_of_le fun q => ?_
  rw [le_down (by omega) (by omega), le_down ht (by omega), show q * (10 * t) = 10 * (q * t) from Nat.mul_left_comm _ _ _, sq_times]
  omega
theorem ceil_tens {n t : Nat} (hn : n ≤ 800000000000000) (ht : 1 ≤ t) : ceil (100 * n) 10 (10 * t) = ceil n 10 t := by
  refine eq_of_ge fun q => ?_
  rw [ceil_le (by omega) (by omega) (by omega), ceil_le (by omega) ht (by omega), show q * (10 * t) = 10 * (q * t) from Nat.mul_left_comm _ _ _, sq_times]
  omega
theorem down_tenth {n t : Nat} (hn : n ≤ 800000000000000) (ht : 1 ≤ t) : down n 10 (10 * t) = down n 1 t := by
  refine eq_of_le fun q => ?_
  rw [le_down (by omega) (by omega), le_down ht (by omega), show q * (10 * t) = 10 * (q * t) from Nat.mul_left_comm _ _ _, sq_times]
  omega

/-! Squares. -/
theorem rt_sq {a : Nat} (h : a * a ≤ 9223372036854775807) : rt (a * a) = a := by
  refine eq_of_le fun q => ?_
  rw [le_rt h]; exact sq_le_iff
theorem near_sq {a t : Nat} (h : a * t * (a * t) ≤ 2000000000000000000) (ht : 1 ≤ t) : near (a * t * (a * t)) t = a := by
  refine eq_of_next fun q => ?_
  rw [le_near ht (by omega), show 4 * (a * t * (a * t)) = 2 * (a * t) * (2 * (a * t)) from (sq_times 2 _).symm, sq_le_iff, ← Nat.mul_assoc, Nat.mul_le_mul_right_iff (by omega)]
  omega
theorem down_sq {a m t : Nat} (h : m * m * (a * t * (a * t)) ≤ 9223372036854775807) (ht : 1 ≤ t) : down (a * t * (a * t)) m t = m * a := by
  refine eq_of_le fun q => ?_
  rw [le_down ht h, ← sq_times, sq_le_iff, ← Nat.mul_assoc, Nat.mul_le_mul_right_iff (by omega)]
theorem ceil_sq {a t : Nat} (h : a * t * (a * t) ≤ 9223372036854775807) (ht : 1 ≤ t) : ceil (a * t * (a * t)) 1 t = a := by
  refine eq_of_ge fun q => ?_
  rw [ceil_le (by omega) ht h, Nat.one_mul, sq_le_iff, Nat.mul_le_mul_right_iff (by omega)]

/-! What rises. -/
theorem rt_mono {x y : Nat} (h : x ≤ y) (hy : y ≤ 9223372036854775807) : rt x ≤ rt y := by
  rw [le_rt hy]; exact Nat.le_trans (rt_is (by omega)).1 h
theorem near_mono {x y d : Nat} (h : x ≤ y) (hy : y ≤ 80000000000000000) : near x d ≤ near y d := by
  have := Nat.div_le_div_right (c := d) (rt_mono (x := 4 * x) (y := 4 * y) (by omega) (by omega))
  unfold near; omega
theorem down_mono {x y m d : Nat} (h : x ≤ y) (hy : m * m * y ≤ 9223372036854775807) : down x m d ≤ down y m d :=
  Nat.div_le_div_right (rt_mono (Nat.mul_le_mul_left _ h) hy)
theorem ceil_mono {x y k d : Nat} (h : x ≤ y) (hy : y ≤ 80000000000000000) (hk : 1 ≤ k) (hd : 1 ≤ d) : ceil x k d ≤ ceil y k d := by
  rw [ceil_le hk hd (by omega)]
  exact Nat.le_trans h ((ceil_le hk hd (by omega) _).1 (Nat.le_refl _))
theorem near_falls {n s t : Nat} (h : s ≤ t) (hs : 1 ≤ s) : near n t ≤ near n s := by
  have := Nat.div_le_div_left (a := rt (4 * n)) h hs
  unfold near; omega
theorem ceil_falls {n k s t : Nat} (h : s ≤ t) (hs : 1 ≤ s) (hk : 1 ≤ k) (hn : n ≤ 80000000000000000) : ceil n k t ≤ ceil n k s := by
  rw [ceil_le hk (by omega) (by omega)]
  exact Nat.le_trans ((ceil_le hk hs (by omega) _).1 (Nat.le_refl _)) (Nat.mul_le_mul_left _ (sq_le (Nat.mul_le_mul_left _ h)))
end Go.Root
