/- The document's own Norm. Conditions: lists of at most a million. -/
import Derived.Test.YtogpnkahgkidpaaCanonIts
import Derived.Test.YtogpnkahgkidpaaCanonWell
import Derived.Deep.CutRange
import Derived.Deep.CutBlock
namespace Go.Proofs
open Go.RowKit Go.Shelf Go.Canon
attribute [local go_sem] Oper.semAt_some

theorem norm_out {x : Ins} (h : ¬(1 ≤ x.scale ∧ x.scale ≤ 6)) : norm x = x := by unfold norm; rw [if_neg h]
theorem norm_not {x : Ins} (h : whole x.nodes = false) : norm x = x := by
  unfold norm
  by_cases hs : 1 ≤ x.scale ∧ x.scale ≤ 6
  · rw [if_pos hs]
    obtain ⟨s, hs'⟩ : ∃ s, x.scale.toNat = s + 1 := ⟨x.scale.toNat - 1, by omega⟩
    have e : normN (s + 1) x.nodes = (s + 1, x.nodes) := by rw [normN, if_neg (by rw [h]; exact Bool.false_ne_true)]
    rw [hs', e]
    have : ((s + 1 : Nat) : Int) = x.scale := by omega
    dsimp only
    rw [this]
  · rw [if_neg hs]
theorem norm_step {x : Ins} {s : Int} {l : List Nd} (h1 : 1 ≤ s) (h6 : s ≤ 6) (h : whole l = true) : norm { x with scale := s - 1, nodes := shrink l } = norm { x with scale := s, nodes := l } := by
  obtain ⟨n, hn⟩ : ∃ n : Nat, s = (n : Int) + 1 := ⟨(s - 1).toNat, by omega⟩
  subst hn
  have e1 : ((n : Int) + 1).toNat = n + 1 := by omega
  have e2 : ((n : Int) + 1 - 1) = (n : Int) := by omega
  have e3 : norm { x with scale := (n : Int) + 1, nodes := l } = { x with scale := ((normN (n + 1) l).1 : Int), nodes := (normN (n + 1) l).2 } := by
    unfold norm; rw [if_pos ⟨h1, h6⟩]; dsimp only; rw [e1]
  rw [e3, e2, normN, if_pos h]
  unfold norm
  by_cases h0 : 1 ≤ (n : Int)
  · rw [if_pos (show 1 ≤ (n : Int) ∧ (n : Int) ≤ 6 from ⟨h0, by omega⟩)]
    dsimp only
    rw [Int.toNat_natCast]
  · rw [if_neg (fun h => h0 h.1)]
    have : n = 0 := by omega
    subst this
    rfl
/-- What stands in the middle of Norm: the boxes, and the nodes so far. -/
structure NrmS (w : World) (x : Ins) (vn vm : Value) (W : World) (s : Int) (v : Value) (l : List Nd) : Prop where
  row : W.ownsRow (w.heap.size + 2) 58 7 v l.length (l.flatMap ndC)
  pb : W.heap[w.heap.size]? = some (.cells #[.string x.name, .int .i64 x.kind, .int .i64 x.metric, .int .i64 s, .int .i64 x.cap, .int .i64 x.fleet, vn, vm] 36)
  rb : W.heap[w.heap.size + 1]? = some (.cells #[.string ⟨#[]⟩, .int .i64 0, .int .i64 0, .int .i64 0, .int .i64 0, .int .i64 0, .slice none 0 0, .slice none 0 0] 36)
  sz : w.heap.size + 2 ≤ W.heap.size
  below : Below w.heap.size w W
theorem two_blocks (w : World) (A B C : Obj) : (((w.alloc A).alloc B).alloc C).heap[w.heap.size]? = some A ∧ (((w.alloc A).alloc B).alloc C).heap[w.heap.size + 1]? = some B ∧ ((w.alloc A).alloc B).heap.size = w.heap.size + 2 := by
  have s1 : (w.alloc A).heap.size = w.heap.size + 1 := by show (w.heap.push _).size = _; simp
  have s2 : ((w.alloc A).alloc B).heap.size = w.heap.size + 2 := by show (Array.push _ _).size = _; rw [Array.size_push, s1]
  have B3 : Below ((w.alloc A).alloc B).heap.size ((w.alloc A).alloc B) (((w.alloc A).alloc B).alloc C) := below_box _ _
  have B2 : Below (w.alloc A).heap.size (w.alloc A) (((w.alloc A).alloc B).alloc C) := below_two _ _ _
  refine ⟨?_, ?_, s2⟩
  · rw [B2.block w.heap.size (by rw [s1]; exact Nat.lt_succ_self _), World.alloc_heap_new]
  · have h := World.alloc_heap_new (w.alloc A) B
    rw [s1] at h
    rw [B3.block (w.heap.size + 1) (by rw [s2]; omega), h]
theorem nrm_start (w : World) (x : Ins) (vn vm : Value) : NrmS w x vn vm (((w.alloc (.cells #[.string x.name, .int .i64 x.kind, .int .i64 x.metric, .int .i64 x.scale, .int .i64 x.cap, .int .i64 x.fleet, vn, vm] 36)).alloc (.cells #[.string ⟨#[]⟩, .int .i64 0, .int .i64 0, .int .i64 0, .int .i64 0, .int .i64 0, .slice none 0 0, .slice none 0 0] 36)).alloc (.cells #[] 58)) x.scale (.slice (some ⟨w.heap.size + 2, 0, none⟩) 0 0) [] := by
  obtain ⟨h1, h2, h3⟩ := two_blocks w (.cells #[.string x.name, .int .i64 x.kind, .int .i64 x.metric, .int .i64 x.scale, .int .i64 x.cap, .int .i64 x.fleet, vn, vm] 36) (.cells #[.string ⟨#[]⟩, .int .i64 0, .int .i64 0, .int .i64 0, .int .i64 0, .int .i64 0, .slice none 0 0, .slice none 0 0] 36) (.cells #[] 58)
  have ho := cowns_empty ((w.alloc (.cells #[.string x.name, .int .i64 x.kind, .int .i64 x.metric, .int .i64 x.scale, .int .i64 x.cap, .int .i64 x.fleet, vn, vm] 36)).alloc (.cells #[.string ⟨#[]⟩, .int .i64 0, .int .i64 0, .int .i64 0, .int .i64 0, .int .i64 0, .slice none 0 0, .slice none 0 0] 36)) 58 7
  rw [h3] at ho
  exact ⟨ho, h1, h2, by have := (below_box ((w.alloc (.cells #[.string x.name, .int .i64 x.kind, .int .i64 x.metric, .int .i64 x.scale, .int .i64 x.cap, .int .i64 x.fleet, vn, vm] 36)).alloc (.cells #[.string ⟨#[]⟩, .int .i64 0, .int .i64 0, .int .i64 0, .int .i64 0, .int .i64 0, .slice none 0 0, .slice none 0 0] 36)) (.cells #[] 58)).size; omega, (below_two _ _ _).alloc (by rw [h3]; omega) _⟩
theorem NrmS.p {w W : World} {x : Ins} {vn vm v : Value} {s : Int} {l : List Nd} (h : NrmS w x vn vm W s v l) (j : Nat) : W.cell? ⟨w.heap.size, j, none⟩ = (#[Value.string x.name, .int .i64 x.kind, .int .i64 x.metric, .int .i64 s, .int .i64 x.cap, .int .i64 x.fleet, vn, vm] : Array Value)[j]? := by
  unfold World.cell?; rw [h.pb]; rfl
theorem cowns_set {W : World} {base : Nat} {e : TypeId} {size : Nat} {v : Value} {k : Nat} {xs : List Value} (h : W.ownsRow base e size v k xs) {a : Addr} (ha : a.block < base) (u : Value) : (W.setCell a u).ownsRow base e size v k xs :=
  h.kept (row := some a.block) ⟨rfl, rfl, rfl, by simp [World.setCell], fun k _ hk => Below.heap_setCell _ _ _ _ (fun e => hk (by rw [e]))⟩ (.inr fun e => by have := (h.lt _ e).1; omega)
theorem NrmS.scale {w W : World} {x : Ins} {vn vm v : Value} {s : Int} {l : List Nd} (h : NrmS w x vn vm W s v l) (s' : Int) : NrmS w x vn vm (W.setCell ⟨w.heap.size, 3, none⟩ (.int .i64 s')) s' v l := by
  refine ⟨cowns_set h.row (by show w.heap.size < _; omega) _, ?_, ?_, by have := h.sz; simpa [World.setCell] using this, h.below.setCell (Nat.le_refl _) _⟩
  · have e := h.pb
    simp [World.setCell, Array.getElem?_modify, e]
  · rw [Below.heap_setCell _ _ _ _ (by show w.heap.size + 1 ≠ w.heap.size; omega)]; exact h.rb
theorem NrmS.fp {w W : World} {x : Ins} {vn vm v : Value} {s : Int} {l : List Nd} (h : NrmS w x vn vm W s v l) (j : Nat) : W.frozen? ⟨w.heap.size, j, none⟩ = false := by
  unfold World.frozen?; rw [h.pb]; rfl
/-- Whatever else grows, and whatever else is written, from the row on. -/
theorem NrmS.grow {w W W1 : World} {x : Ins} {vn vm v v' : Value} {s : Int} {l l' : List Nd} (h : NrmS w x vn vm W s v l) (hown : W1.ownsRow (w.heap.size + 2) 58 7 v' l'.length (l'.flatMap ndC)) (hB : Below (w.heap.size + 2) W W1) : NrmS w x vn vm W1 s v' l' :=
  ⟨hown, (hB.block _ (by omega)).trans h.pb, (hB.block _ (by omega)).trans h.rb, Nat.le_trans h.sz hB.size, h.below.trans (hB.mono (by omega))⟩
theorem nodes_news {W : World} {b off : Nat} {l : List Nd} (h : NodesAt W b off l) : ∀ (j : Nat) (u : Value), (l.flatMap ndC)[j]? = some u → W.cell? ((⟨b, off, none⟩ : Addr).add j) = some u := by
  intro j u hj
  have hlt : j < l.length * 7 := by rw [← flat_len (f := ndC) (s := 7) (fun _ => rfl) l]; exact (List.getElem?_eq_some_iff.1 hj).1
  have hi : j / 7 < l.length := by omega
  have hd : l[j / 7]? = some l[j / 7] := List.getElem?_eq_getElem hi
  have hc := h.2 _ _ hd
  generalize l[j / 7] = d at hd hc
  have hg := flat_get (f := ndC) (s := 7) (fun _ => rfl) hd (Nat.mod_lt j (by omega))
  rw [show j / 7 * 7 + j % 7 = j by omega, hj] at hg
  rw [Addr.add_lit]
  obtain ⟨i, hi'⟩ : ∃ i, j / 7 = i := ⟨_, rfl⟩
  have hr : j % 7 < 7 := Nat.mod_lt j (by omega)
  have ej : off + j = off + i * 7 + j % 7 := by omega
  rw [hi'] at hc
  rw [ej]
  obtain ⟨x0, x1, x2, x3, x4, x5, x6⟩ := hc
  generalize j % 7 = r at hg hr ⊢
  rcases r with _ | _ | _ | _ | _ | _ | _ | r
  · rw [show u = _ from Option.some.inj hg]; exact x0
  · rw [show u = _ from Option.some.inj hg]; exact x1
  · rw [show u = _ from Option.some.inj hg]; exact x2
  · rw [show u = _ from Option.some.inj hg]; exact x3
  · rw [show u = _ from Option.some.inj hg]; exact x4
  · rw [show u = _ from Option.some.inj hg]; exact x5
  · rw [show u = _ from Option.some.inj hg]; exact x6
  · omega
theorem nd_one (l : List Nd) : ∀ u ∈ l.flatMap ndC, u.oneCell' = true := by
  intro u hu
  obtain ⟨d, _, h⟩ := List.mem_flatMap.1 hu
  simp only [ndC, List.mem_cons, List.not_mem_nil, or_false] at h
  rcases h with rfl | rfl | rfl | rfl | rfl | rfl | rfl <;> rfl
theorem flat_set7 : ∀ {l : List Nd} {k : Nat} {d : Nd}, l[k]? = some d → ((l.flatMap ndC).set (k * 7) (.int .i64 (d.x.tdiv 10))).set (k * 7 + 1) (.int .i64 (d.y.tdiv 10)) = (l.set k (shrinkNd d)).flatMap ndC
  | [], k, d, h => by simp at h
  | a :: l, 0, d, h => by
    have e : a = d := by simpa using h
    subst e
    simp [ndC, shrinkNd]
  | a :: l, k + 1, d, h => by
    have h' : l[k]? = some d := by simpa using h
    have hl : (ndC a).length = 7 := rfl
    rw [List.flatMap_cons, List.set_cons_succ, List.flatMap_cons, ← flat_set7 h', List.set_append_right _ _ (by rw [hl]; omega), List.set_append_right _ _ (by rw [hl]; omega), hl]
    rw [show (k + 1) * 7 - 7 = k * 7 by omega, show (k + 1) * 7 + 1 - 7 = k * 7 + 1 by omega]
/-- A point in 64 bits. -/
def In64 (d : Nd) : Prop := (-9223372036854775808 ≤ d.x ∧ d.x ≤ 9223372036854775807) ∧ (-9223372036854775808 ≤ d.y ∧ d.y ≤ 9223372036854775807)
theorem wrap_ten {a : Int} (h : -9223372036854775808 ≤ a ∧ a ≤ 9223372036854775807) : wrap64 (a.tdiv 10) = a.tdiv 10 := by
  have h1 : (a.tdiv 10).natAbs = a.natAbs / 10 := Int.natAbs_tdiv a 10
  unfold wrap64
  omega
theorem in_shrink {l : List Nd} (h : ∀ d ∈ l, In64 d) : ∀ d ∈ shrink l, In64 d := by
  intro d hd
  obtain ⟨e, he, rfl⟩ := List.mem_map.1 hd
  have h1 : (e.x.tdiv 10).natAbs = e.x.natAbs / 10 := Int.natAbs_tdiv e.x 10
  have h2 : (e.y.tdiv 10).natAbs = e.y.natAbs / 10 := Int.natAbs_tdiv e.y 10
  obtain ⟨h3, h4⟩ := h e he
  unfold In64 shrinkNd
  dsimp only
  omega
/-- Shrunk as far as the k-th. -/
def mid (l : List Nd) (k : Nat) : List Nd := (l.take k).map shrinkNd ++ l.drop k
theorem mid_len (l : List Nd) {k : Nat} (h : k ≤ l.length) : (mid l k).length = l.length := by simp [mid]; omega
theorem mid_zero (l : List Nd) : mid l 0 = l := by simp [mid]
theorem mid_all (l : List Nd) : mid l l.length = shrink l := by simp [mid, shrink]
theorem mid_get {l : List Nd} {k : Nat} {d : Nd} (h : l[k]? = some d) : (mid l k)[k]? = some d := by
  have hlt := (List.getElem?_eq_some_iff.1 h).1
  unfold mid
  rw [List.getElem?_append_right (by simp; omega)]
  simp [List.getElem?_drop, show min k l.length = k by omega, h]
theorem mid_set {l : List Nd} {k : Nat} {d : Nd} (h : l[k]? = some d) : (mid l k).set k (shrinkNd d) = mid l (k + 1) := by
  have hlt := (List.getElem?_eq_some_iff.1 h).1
  have e : l.drop k = d :: l.drop (k + 1) := by rw [← List.getElem_cons_drop hlt]; rw [(List.getElem?_eq_some_iff.1 h).2]
  unfold mid
  rw [ctake_get h, List.map_append, List.set_append_right _ _ (by simp; omega), e]
  simp [show min k l.length = k by omega]
theorem owns_some {W : World} {base n c size : Nat} {e : TypeId} {ao : Option Addr} {xs : List Value} (h : W.ownsRow base e size (.slice ao n c) n xs) (hn : 0 < n) : ∃ g, ao = some ⟨g, 0, none⟩ ∧ base ≤ g := by
  rcases h.2 with ⟨h', h0⟩ | ⟨g, cap, cur, h', hb, _⟩
  · omega
  · injection h' with h1 h2 h3
    exact ⟨g, h1, hb⟩
theorem all_take {l : List Nd} {k : Nat} {d : Nd} {b : Bool} (h : l[k]? = some d) (hb : (l.take k).all wholeNd = b) : (l.take (k + 1)).all wholeNd = (b && wholeNd d) := by
  rw [ctake_get h, List.all_append, hb]; simp
theorem NrmS.six {w W : World} {x : Ins} {vn vm v : Value} {s : Int} {l : List Nd} (h : NrmS w x vn vm W s v l) (u : Value) : NrmS w x u vm (W.setCell ⟨w.heap.size, 6, none⟩ u) s v l := by
  refine ⟨cowns_set h.row (by show w.heap.size < _; omega) _, ?_, ?_, by have := h.sz; simpa [World.setCell] using this, h.below.setCell (Nat.le_refl _) _⟩
  · have e := h.pb
    simp [World.setCell, Array.getElem?_modify, e]
  · rw [Below.heap_setCell _ _ _ _ (by show w.heap.size + 1 ≠ w.heap.size; omega)]; exact h.rb
theorem NrmS.seven {w W : World} {x : Ins} {vn vm v : Value} {s : Int} {l : List Nd} (h : NrmS w x vn vm W s v l) (u : Value) : NrmS w x vn u (W.setCell ⟨w.heap.size, 7, none⟩ u) s v l := by
  refine ⟨cowns_set h.row (by show w.heap.size < _; omega) _, ?_, ?_, by have := h.sz; simpa [World.setCell] using this, h.below.setCell (Nat.le_refl _) _⟩
  · have e := h.pb
    simp [World.setCell, Array.getElem?_modify, e]
  · rw [Below.heap_setCell _ _ _ _ (by show w.heap.size + 1 ≠ w.heap.size; omega)]; exact h.rb
theorem NrmS.next {w W W1 : World} {x : Ins} {vn vm v : Value} {s : Int} {l : List Nd} (h : NrmS w x vn vm W s v l) (hB : Below W.heap.size W W1) : NrmS w x vn vm W1 s v l :=
  h.grow (h.row.kept (row := none) ⟨hB.os, hB.tape, hB.output, hB.size, fun k hk _ => hB.block k hk⟩ (by cases v.ownBlock <;> simp)) (hB.mono h.sz)
theorem owns_low {w : World} {base base' : Nat} {e : TypeId} {size : Nat} {v : Value} {k : Nat} {xs : List Value} (h : w.ownsRow base e size v k xs) (hb : base' ≤ base) : w.ownsRow base' e size v k xs := by
  refine ⟨h.1, h.2.imp id ?_⟩
  rintro ⟨g, cap, cur, h1, h2, h3⟩
  exact ⟨g, cap, cur, h1, Nat.le_trans hb h2, h3⟩
theorem int_one (l : List Int) : ∀ u ∈ l.map fun y => Value.int .i64 y, u.oneCell' = true := by
  intro u hu
  obtain ⟨y, _, rfl⟩ := List.mem_map.1 hu
  rfl
theorem Try.info3 : (Try.prog.info? 3).map (fun i => (i.zero, i.size, i.bytes)) = some (some (.int .i64 0), 1, 8) := by kernel_rfl
set_option maxRecDepth 100000 in
set_option maxHeartbeats 4000000 in
theorem Try.rnorm_calls (x : Ins) (vn vm : Value) (w : World) (hx : HasIns w vn vm x) (h1 : x.nodes.length ≤ 1000000) (h2 : x.matrix.length ≤ 1000000) (h64 : ∀ d ∈ x.nodes, In64 d) :
    Calls Try.prog 19 #[insV x vn vm] w fun e w' => ∃ un um, e = .returned (insV (norm x) un um) ∧ HasIns w' un um (norm x) ∧ Below w.heap.size w w' := by
  obtain ⟨i0, hi, hz0, hz1, hz2⟩ := info_parts Try.info58
  have HI := Lib.hid hi
  obtain ⟨an, cn, rfl, hn⟩ := hx.nodes.dat
  obtain ⟨am, cm, rfl, hm⟩ := hx.matrix.dat
  unfold insV
  have H64 := Lib.hid h64
  clear hi hx h64
  obtain ⟨L, hL⟩ : ∃ L, x.nodes.length = L := ⟨_, rfl⟩
  rw [hL] at h1 ⊢
  have HL := Lib.hid hL
  clear hL
  obtain ⟨M, hM⟩ : ∃ M, x.matrix.length = M := ⟨_, rfl⟩
  rw [hM] at h2 ⊢
  have HMl := Lib.hid hM
  clear hM
  go_enter Try.func19, Try.ntmps19
  go_upto_region 1 with (fail)
  have HN := Lib.hid hn
  have HM := Lib.hid hm
  clear hn hm
  go_cut [3] from 7 to 10 (fun s3 wx => NrmS w x (.slice an L cn) (.slice am M cm) wx x.scale s3 x.nodes)
  case first =>
    have S0 := Lib.hid (nrm_start w x (.slice an L cn) (.slice am M cm))
    have hml : 0 + L ≤ maxLen := by unfold maxLen; omega
    have hml2 : (0 + L) * 56 ≤ 140737488355328 := by omega
    rcases HN.out with h0 | ⟨b, off, rfl, hN⟩
    · have hL0 : L = 0 := by rw [← HL.out, h0]; rfl
      subst hL0
      have H0 := Lib.hid h0
      clear HN HM HL h0
      cases an with
      | none =>
        go_wp2
        go_meet
        rw [H0.out]; exact S0.out
      | some ad =>
        go_wp2
        go_meet
        rw [H0.out]; exact S0.out
    · obtain ⟨B1, B2, B3⟩ := two_blocks w (.cells #[.string x.name, .int .i64 x.kind, .int .i64 x.metric, .int .i64 x.scale, .int .i64 x.cap, .int .i64 x.fleet, .slice (some ⟨b, off, none⟩) L cn, .slice am M cm] 36) (.cells #[.string ⟨#[]⟩, .int .i64 0, .int .i64 0, .int .i64 0, .int .i64 0, .int .i64 0, .slice none 0 0, .slice none 0 0] 36) (.cells #[] 58)
      have HW : Hid (∀ W, Below w.heap.size w W → ∀ (j : Nat) (u : Value), (x.nodes.flatMap ndC)[j]? = some u → W.cell? ((⟨b, off, none⟩ : Addr).add j) = some u) := fun W hW => nodes_news (hN.below hW hN.1)
      have HF : Hid ((x.nodes.flatMap ndC).length = L * 7) := by unfold Hid; rw [← HL.out]; exact flat_len (f := ndC) (s := 7) (fun _ => rfl) _
      have hsz := S0.out.sz
      clear hN B1 B2 B3
      go_wp2_with (at_builtin; refine wpList_append_own _ rfl _ _ 34 rfl (w.heap.size + 2) 58 i0 (.agg #[.int .i64 0, .int .i64 0, .int .i64 0, .int .i64 0, .int .i64 0, .int .i64 0, .int .i64 0]) 7 56 Try.underlying34 HI.out hz0 hz1 hz2 rfl (by decide) _ 0 [] rfl S0.out.row ⟨b, off, none⟩ L cn (x.nodes.flatMap ndC) rfl HF.out (HW.out _ S0.out.below) (nd_one _) hml hml2 hsz ?_; intro v' w1 hown' hgrow _)
      go_meet
      refine S0.out.grow (by rw [HL.out]; rw [Nat.zero_add] at hown'; exact hown') ?_
      exact (Below.refl _ _).grown hgrow S0.out.sz (fun k e => (S0.out.row.lt k e).1)
  case rest =>
    obtain ⟨W0, rfl⟩ : ∃ W, W = wc := ⟨_, rfl⟩
    obtain ⟨v0, rfl⟩ : ∃ v, v = u3 := ⟨_, rfl⟩
    have HS := Lib.hid hcut
    clear hcut HN
    go_upto_block 0 with (fail)
    obtain ⟨ao, c0, rfl⟩ : ∃ ao c, v0 = .slice ao L c := by
      obtain ⟨ao, c, h⟩ := owns_dat HS.out.row
      exact ⟨ao, c, by rw [h, HL.out]⟩
    go_cut [4] from 11 to 75 (fun _ wx => ∃ (s : Int) (l : List Nd), NrmS w x (.slice an L cn) (.slice am M cm) wx s (.slice ao L c0) l ∧ l.length = L ∧ norm x = { x with scale := s, nodes := l })
    case first =>
      go_wp2_with (fail)
      go_loopw [4] (fun _ wr => ∃ (s : Int) (l : List Nd), NrmS w x (.slice an L cn) (.slice am M cm) wr s (.slice ao L c0) l ∧ l.length = L ∧ Hid (norm x = norm { x with scale := s, nodes := l }) ∧ Hid (∀ d ∈ l, In64 d)) (fun _ W => match W.cell? ⟨w.heap.size, 3, none⟩ with | some (.int _ n) => n.toNat | _ => 0)
      case atStart => exact ⟨x.scale, x.nodes, HS.out, HL.out, rfl, H64.out⟩
      case round =>
        obtain ⟨s, l, hS, hl, hN, HI64⟩ := hrel
        have p3 : wr.cell? ⟨w.heap.size, 3, none⟩ = some (.int .i64 s) := hS.p 3
        have HR := Lib.hid hS
        by_cases hs1 : 1 ≤ s
        · by_cases hs6 : s ≤ 6
          · have HLl := Lib.hid hl
            have row := hS.row
            rw [hl] at row
            have HW := Lib.hid row
            clear hS hl row
            go_wp2
            go_loopw [4, 5] (fun t i ws => ∃ k : Nat, k ≤ L ∧ i = .int .i64 (k : Int) ∧ t = .bool ((l.take k).all wholeNd) ∧ wr = ws) (fun _ i _ => L - (intOf i).toNat)
            case atStart => exact ⟨0, Nat.zero_le _, rfl, rfl, rfl⟩
            case round =>
              obtain ⟨k, hk, rfl, rfl, rfl⟩ := hrel
              obtain ⟨b, hb⟩ : ∃ b, (l.take k).all wholeNd = b := ⟨_, rfl⟩
              rw [hb]
              by_cases hlt : k < L
              · have hki : (k : Int) < (L : Int) := by omega
                obtain ⟨d, hd⟩ : ∃ d, l[k]? = some d := ⟨_, List.getElem?_eq_getElem (by have := HLl.out; omega)⟩
                have HT := Lib.hid (all_take hd hb)
                cases b with
                | false =>
                  clear hd hb
                  go_wp2
                  go_roundw
                  case rel => exact ⟨k + 1, by omega, by go_num, by rw [HT.out]; rfl, trivial⟩
                  case measure => simp [intOf]; omega
                | true =>
                  obtain ⟨g, rfl, hg⟩ := owns_some HW.out (by omega)
                  have x0 : wr.cell? ⟨g, k * 7, none⟩ = some (.int .i64 d.x) := (World.ownsRow.cellAt HW.out (k * 7) (by omega)).trans (by rw [show k * 7 = k * 7 + 0 from rfl, flat_get (f := ndC) (s := 7) (fun _ => rfl) hd (by omega)]; rfl)
                  have x1 : wr.cell? ⟨g, k * 7 + 1, none⟩ = some (.int .i64 d.y) := (World.ownsRow.cellAt HW.out (k * 7 + 1) (by omega)).trans (by rw [flat_get (f := ndC) (s := 7) (fun _ => rfl) hd (by omega)]; rfl)
                  clear hd hb
                  by_cases hx0 : d.x.tmod 10 = 0
                  · have kx : (d.x.tmod 10 == 0) = true := beq_iff_eq.2 hx0
                    by_cases hy0 : d.y.tmod 10 = 0
                    · have ky : (d.y.tmod 10 == 0) = true := beq_iff_eq.2 hy0
                      have HD : Hid (wholeNd d = true) := by unfold Hid wholeNd; rw [decide_eq_true hx0, decide_eq_true hy0]; rfl
                      clear hx0 hy0
                      go_wp2
                      go_roundw
                      case rel => exact ⟨k + 1, by omega, by go_num, by rw [HT.out, HD.out]; rfl, trivial⟩
                      case measure => simp [intOf]; omega
                    · have ky : (d.y.tmod 10 == 0) = false := beq_eq_false_iff_ne.2 hy0
                      have HD : Hid (wholeNd d = false) := by unfold Hid wholeNd; rw [decide_eq_false hy0, Bool.and_false]
                      clear hx0 hy0
                      go_wp2
                      go_roundw
                      case rel => exact ⟨k + 1, by omega, by go_num, by rw [HT.out, HD.out]; rfl, trivial⟩
                      case measure => simp [intOf]; omega
                  · have kx : (d.x.tmod 10 == 0) = false := beq_eq_false_iff_ne.2 hx0
                    have HD : Hid (wholeNd d = false) := by unfold Hid wholeNd; rw [decide_eq_false hx0, Bool.false_and]
                    clear hx0
                    go_wp2
                    go_roundw
                    case rel => exact ⟨k + 1, by omega, by go_num, by rw [HT.out, HD.out]; rfl, trivial⟩
                    case measure => simp [intOf]; omega
              · obtain rfl : k = L := by omega
                have hbw : whole l = b := by rw [← hb, List.take_of_length_le (by rw [HLl.out]; exact Nat.le_refl _)]; rfl
                have HB := Lib.hid hbw
                clear hb hbw
                cases b with
                | false =>
                  have e := hN.out.trans (norm_not (x := { x with scale := s, nodes := l }) HB.out)
                  have R : Hid (∃ (s : Int) (l : List Nd), NrmS w x (.slice an k cn) (.slice am M cm) wr s (.slice ao k c0) l ∧ l.length = k ∧ norm x = { x with scale := s, nodes := l }) := ⟨s, l, HR.out, HLl.out, e⟩
                  clear e hN
                  go_wp2
                  go_meet
                  exact R.out
                | true =>
                  have HE : Hid (norm x = norm { x with scale := s - 1, nodes := shrink l }) := hN.out.trans (norm_step hs1 hs6 HB.out).symm
                  clear hN
                  go_wp2
                  go_loopw [6] (fun i ws => ∃ j : Nat, j ≤ k ∧ i = .int .i64 (j : Int) ∧ NrmS w x (.slice an k cn) (.slice am M cm) ws s (.slice ao k c0) (mid l j)) (fun i _ => k - (intOf i).toNat)
                  case atStart => exact ⟨0, Nat.zero_le _, rfl, by rw [mid_zero]; exact HR.out⟩
                  case round =>
                    obtain ⟨j, hj, rfl, hS⟩ := hrel
                    have HS3 := Lib.hid hS
                    have hml : (mid l j).length = k := by rw [mid_len l (by rw [HLl.out]; exact hj), HLl.out]
                    have row := hS.row
                    rw [hml] at row
                    by_cases hlt : j < k
                    · have hki : (j : Int) < (k : Int) := by omega
                      obtain ⟨d, hd⟩ : ∃ d, l[j]? = some d := ⟨_, List.getElem?_eq_getElem (by have := HLl.out; omega)⟩
                      obtain ⟨g, rfl, hg⟩ := owns_some row (by omega)
                      have hmd := mid_get hd
                      have x0 : wr.cell? ⟨g, j * 7, none⟩ = some (.int .i64 d.x) := (World.ownsRow.cellAt row (j * 7) (by omega)).trans (by rw [show j * 7 = j * 7 + 0 from rfl, flat_get (f := ndC) (s := 7) (fun _ => rfl) hmd (by omega)]; rfl)
                      have x1 : wr.cell? ⟨g, j * 7 + 1, none⟩ = some (.int .i64 d.y) := (World.ownsRow.cellAt row (j * 7 + 1) (by omega)).trans (by rw [flat_get (f := ndC) (s := 7) (fun _ => rfl) hmd (by omega)]; rfl)
                      have f0 := row.frozenAt (j * 7)
                      have f1 := row.frozenAt (j * 7 + 1)
                      have R : Hid (NrmS w x (.slice an k cn) (.slice am M cm) ((wr.setCell ⟨g, j * 7, none⟩ (.int .i64 (wrap64 (d.x.tdiv 10)))).setCell ⟨g, j * 7 + 1, none⟩ (.int .i64 (wrap64 (d.y.tdiv 10)))) s (.slice (some ⟨g, 0, none⟩) k c0) (mid l (j + 1))) := by
                        have h64 := HI64.out d (List.mem_of_getElem? hd)
                        rw [wrap_ten h64.1, wrap_ten h64.2]
                        refine hS.grow ?_ (((Below.refl _ _).setCell hg _).setCell hg _)
                        have r2 := ((row.stored (j * 7) (.int .i64 (d.x.tdiv 10))).1.stored (j * 7 + 1) (.int .i64 (d.y.tdiv 10))).1
                        rw [flat_set7 hmd, mid_set hd] at r2
                        rw [mid_len l (by rw [HLl.out]; exact hlt), HLl.out]
                        exact r2
                      clear hS hd hmd row hml
                      go_wp2
                      go_roundw
                      case rel => exact ⟨j + 1, by omega, by go_num, R.out⟩
                      case measure => simp [intOf]; omega
                    · obtain rfl : j = k := by omega
                      have hmm : mid l j = shrink l := by rw [← HLl.out]; exact mid_all l
                      have q3 : wr.cell? ⟨w.heap.size, 3, none⟩ = some (.int .i64 s) := hS.p 3
                      have fq := hS.fp 3
                      have R : Hid (NrmS w x (.slice an j cn) (.slice am M cm) (wr.setCell ⟨w.heap.size, 3, none⟩ (.int .i64 (s - 1))) (s - 1) (.slice ao j c0) (shrink l)) := by
                        have := hS.scale (s - 1)
                        rw [hmm] at this
                        exact this
                      clear hS row hml hmm HS3
                      go_wp2
                      refine ⟨⟨s - 1, shrink l, R.out, by rw [shrink_length, HLl.out], HE.out, in_shrink HI64.out⟩, ?_⟩
                      rw [show _ = _ from R.out.p 3, p3]
                      show (s - 1).toNat < s.toNat
                      omega
          · have e := hN.out.trans (norm_out (x := { x with scale := s, nodes := l }) (fun h => hs6 h.2))
            have R : Hid (∃ (s : Int) (l : List Nd), NrmS w x (.slice an L cn) (.slice am M cm) wr s (.slice ao L c0) l ∧ l.length = L ∧ norm x = { x with scale := s, nodes := l }) := ⟨s, l, hS, hl, e⟩
            clear hS hl e hN
            go_wp2
            go_meet
            exact R.out
        · have e := hN.out.trans (norm_out (x := { x with scale := s, nodes := l }) (fun h => hs1 h.1))
          have R : Hid (∃ (s : Int) (l : List Nd), NrmS w x (.slice an L cn) (.slice am M cm) wr s (.slice ao L c0) l ∧ l.length = L ∧ norm x = { x with scale := s, nodes := l }) := ⟨s, l, hS, hl, e⟩
          clear hS hl e hN
          go_wp2
          go_meet
          exact R.out
    case rest =>
      obtain ⟨s, l, hS, hl, hN⟩ := hcut
      obtain ⟨W1, rfl⟩ : ∃ W, W = wc := ⟨_, rfl⟩
      have HE := Lib.hid hN
      have HLl := Lib.hid hl
      clear hN hl HS
      have p6 : W1.cell? ⟨w.heap.size, 6, none⟩ = some (.slice an L cn) := hS.p 6
      have g6 := hS.fp 6
      have S2 := hS.six (.slice ao L c0)
      clear hS
      go_upto_region 16 with (fail)
      clear p6 g6
      generalize W1.setCell ⟨w.heap.size, 6, none⟩ (.slice ao L c0) = W2 at *
      have HS2 := Lib.hid S2
      have p7 : W2.cell? ⟨w.heap.size, 7, none⟩ = some (.slice am M cm) := S2.p 7
      have g7 := S2.fp 7
      have sz := S2.sz
      have lt2 : w.heap.size < W2.heap.size := by omega
      have p7a : ∀ o, (W2.alloc o).cell? ⟨w.heap.size, 7, none⟩ = some (.slice am M cm) := fun o => ((below_box W2 o).cell (p := ⟨w.heap.size, 7, none⟩) lt2).trans p7
      have g7a : ∀ o, (W2.alloc o).frozen? ⟨w.heap.size, 7, none⟩ = false := fun o => ((below_box W2 o).frozen (p := ⟨w.heap.size, 7, none⟩) lt2).trans g7
      clear S2
      go_cut [78] from 78 to 82 (fun _ wx => ∃ um, NrmS w x (.slice ao L c0) um wx s (.slice ao L c0) l ∧ wx.ownsRow (w.heap.size + 2) 3 1 um M (x.matrix.map fun y => .int .i64 y))
      case first =>
        have hml : 0 + M ≤ maxLen := by unfold maxLen; omega
        have hml2 : (0 + M) * 8 ≤ 140737488355328 := by omega
        obtain ⟨i1, hi1, hy0, hy1, hy2⟩ := info_parts Try.info3
        have HI1 := Lib.hid hi1
        clear hi1
        rcases HM.out with h0 | ⟨b, off, rfl, hMM⟩
        · have hM0 : M = 0 := by rw [← HMl.out, h0]; rfl
          subst hM0
          have hsz : (W2.setCell ⟨w.heap.size, 7, none⟩ (.slice (some ⟨W2.heap.size, 0, none⟩) 0 0)).heap.size = W2.heap.size := by simp [World.setCell]
          have R : Hid (NrmS w x (.slice ao L c0) (.slice (some ⟨W2.heap.size, 0, none⟩) 0 0) ((W2.setCell ⟨w.heap.size, 7, none⟩ (.slice (some ⟨W2.heap.size, 0, none⟩) 0 0)).alloc (.cells #[] 3)) s (.slice ao L c0) l ∧ ((W2.setCell ⟨w.heap.size, 7, none⟩ (.slice (some ⟨W2.heap.size, 0, none⟩) 0 0)).alloc (.cells #[] 3)).ownsRow (w.heap.size + 2) 3 1 (.slice (some ⟨W2.heap.size, 0, none⟩) 0 0) 0 (x.matrix.map fun y => .int .i64 y)) := by
            refine ⟨(HS2.out.seven _).next (below_box _ _), owns_low (base := W2.heap.size) ?_ sz⟩
            have h := cowns_empty (W2.setCell ⟨w.heap.size, 7, none⟩ (.slice (some ⟨W2.heap.size, 0, none⟩) 0 0)) 3 1
            rw [hsz] at h
            rw [h0]; exact h
          clear hsz
          clear HM HMl h0
          cases am with
          | none =>
            go_wp2
            go_meet
            exact ⟨_, R.out⟩
          | some ad =>
            go_wp2
            go_meet
            exact ⟨_, R.out⟩
        · have HF : Hid ((x.matrix.map fun y => Value.int .i64 y).length = M * 1) := by unfold Hid; simp [HMl.out]
          have HW : Hid (∀ W, Below w.heap.size w W → ∀ (j : Nat) (u : Value), (x.matrix.map fun y => Value.int .i64 y)[j]? = some u → W.cell? ((⟨b, off, none⟩ : Addr).add j) = some u) := fun W hW j u hj => by
            rw [List.getElem?_map] at hj
            obtain ⟨y, hy, rfl⟩ := Option.map_eq_some_iff.1 hj
            rw [Addr.add_lit]
            exact (hW.cell (p := ⟨b, off + j, none⟩) hMM.1).trans (hMM.2 j y hy)
          clear hMM
          go_wp2_with (at_builtin; refine wpList_append_own _ rfl _ _ 23 rfl W2.heap.size 3 i1 (.int .i64 0) 1 8 Try.underlying23 HI1.out hy0 hy1 hy2 rfl (by decide) _ 0 [] rfl (cowns_empty W2 3 1) ⟨b, off, none⟩ M cm (x.matrix.map fun y => .int .i64 y) rfl HF.out (HW.out _ (HS2.out.below.alloc (by omega) _)) (int_one _) hml hml2 (below_box _ _).size ?_; intro v' w1 hown' hgrow _; have R1 := Lib.hid (HS2.out.next (((Below.refl _ _).alloc (Nat.le_refl _) _).grown hgrow (below_box W2 _).size (fun k e => ((cowns_empty W2 3 1).lt k e).1))); have p7' := R1.out.p 7; have g7' := R1.out.fp 7; obtain ⟨ma, mc, rfl⟩ := owns_dat hown'; have R2 := Lib.hid (owns_low hown' sz); clear hown' hgrow)
          go_meet
          refine ⟨_, R1.out.seven _, ?_⟩
          have := cowns_set (a := ⟨w.heap.size, 7, none⟩) R2.out (by show w.heap.size < _; omega) (.slice ma (0 + M) mc)
          rw [Nat.zero_add] at this
          exact this
      case rest =>
      obtain ⟨um, hS, hrow⟩ := hcut
      obtain ⟨ma, mc, rfl⟩ := owns_dat hrow
      have rb := hS.rb
      have y0 : wc.cell? ⟨w.heap.size, 0, none⟩ = some (.string x.name) := hS.p 0
      have r0 : wc.cell? ⟨w.heap.size + 1, 0, none⟩ = some (.string ⟨#[]⟩) := by unfold World.cell?; rw [rb]; rfl
      have f0 : wc.frozen? ⟨w.heap.size + 1, 0, none⟩ = false := by unfold World.frozen?; rw [rb]; rfl
      have y1 : wc.cell? ⟨w.heap.size, 1, none⟩ = some (.int .i64 x.kind) := hS.p 1
      have r1 : wc.cell? ⟨w.heap.size + 1, 1, none⟩ = some (.int .i64 0) := by unfold World.cell?; rw [rb]; rfl
      have f1 : wc.frozen? ⟨w.heap.size + 1, 1, none⟩ = false := by unfold World.frozen?; rw [rb]; rfl
      have y2 : wc.cell? ⟨w.heap.size, 2, none⟩ = some (.int .i64 x.metric) := hS.p 2
      have r2 : wc.cell? ⟨w.heap.size + 1, 2, none⟩ = some (.int .i64 0) := by unfold World.cell?; rw [rb]; rfl
      have f2 : wc.frozen? ⟨w.heap.size + 1, 2, none⟩ = false := by unfold World.frozen?; rw [rb]; rfl
      have y3 : wc.cell? ⟨w.heap.size, 3, none⟩ = some (.int .i64 s) := hS.p 3
      have r3 : wc.cell? ⟨w.heap.size + 1, 3, none⟩ = some (.int .i64 0) := by unfold World.cell?; rw [rb]; rfl
      have f3 : wc.frozen? ⟨w.heap.size + 1, 3, none⟩ = false := by unfold World.frozen?; rw [rb]; rfl
      have y4 : wc.cell? ⟨w.heap.size, 4, none⟩ = some (.int .i64 x.cap) := hS.p 4
      have r4 : wc.cell? ⟨w.heap.size + 1, 4, none⟩ = some (.int .i64 0) := by unfold World.cell?; rw [rb]; rfl
      have f4 : wc.frozen? ⟨w.heap.size + 1, 4, none⟩ = false := by unfold World.frozen?; rw [rb]; rfl
      have y5 : wc.cell? ⟨w.heap.size, 5, none⟩ = some (.int .i64 x.fleet) := hS.p 5
      have r5 : wc.cell? ⟨w.heap.size + 1, 5, none⟩ = some (.int .i64 0) := by unfold World.cell?; rw [rb]; rfl
      have f5 : wc.frozen? ⟨w.heap.size + 1, 5, none⟩ = false := by unfold World.frozen?; rw [rb]; rfl
      have y6 : wc.cell? ⟨w.heap.size, 6, none⟩ = some (.slice ao L c0) := hS.p 6
      have r6 : wc.cell? ⟨w.heap.size + 1, 6, none⟩ = some (.slice none 0 0) := by unfold World.cell?; rw [rb]; rfl
      have f6 : wc.frozen? ⟨w.heap.size + 1, 6, none⟩ = false := by unfold World.frozen?; rw [rb]; rfl
      have y7 : wc.cell? ⟨w.heap.size, 7, none⟩ = some (.slice ma M mc) := hS.p 7
      have r7 : wc.cell? ⟨w.heap.size + 1, 7, none⟩ = some (.slice none 0 0) := by unfold World.cell?; rw [rb]; rfl
      have f7 : wc.frozen? ⟨w.heap.size + 1, 7, none⟩ = false := by unfold World.frozen?; rw [rb]; rfl
      have HR := Lib.hid hS
      have HU := Lib.hid hrow
      clear hS hrow rb
      go_wp2
      refine bodyPost_ret (v := .agg #[.string x.name, .int .i64 x.kind, .int .i64 x.metric, .int .i64 s, .int .i64 x.cap, .int .i64 x.fleet, .slice ao L c0, .slice ma M mc]) (by simp [results, Try.results19, go_sem, r0, r1, r2, r3, r4, r5, r6, r7]) rfl ⟨.slice ao L c0, .slice ma M mc, by rw [HE.out], ?_, ?_⟩
      · rw [HE.out]
        exact ⟨nodes_of_owns (its_ret HR.out.row (Nat.lt_succ_self _) _ _ _ _ _ _ _ _), nums_of_owns (base := w.heap.size + 2) (e := 3) (by rw [HMl.out]; exact its_ret HU.out (Nat.lt_succ_self _) _ _ _ _ _ _ _ _)⟩
      · exact ((((((((HR.out.below.setCell (by simp) _).setCell (by simp) _).setCell (by simp) _).setCell (by simp) _).setCell (by simp) _).setCell (by simp) _).setCell (by simp) _).setCell (by simp) _)
end Go.Proofs
