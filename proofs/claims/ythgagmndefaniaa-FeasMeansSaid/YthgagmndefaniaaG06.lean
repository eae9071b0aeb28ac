/- The program's Norm. Conditions: lists of at most a million; points in 64 bits. -/
import Derived.Test.YthgagmndefaniaaG05
import Derived.Deep.CutRange
import Derived.Deep.CutBlock
import Derived.Deep.RegionWith
namespace Go.Proofs
open Go.RowKit Go.Shelf Go.Canon
attribute [local go_sem] Oper.semAt_some

/-- What stands in the middle of Norm: the boxes, the nodes so far, the numbers, both in rows of its own. -/
structure NrmP (w : World) (x : Ins) (u um : Value) (W : World) (s : Int) (l : List Nd) : Prop where
  row : W.ownsRow (w.heap.size + 2) 55 7 u l.length (l.flatMap ndC)
  mrow : W.ownsRow (w.heap.size + 2) 3 1 um x.matrix.length (x.matrix.map fun y => .int .i64 y)
  pb : W.heap[w.heap.size]? = some (.cells #[.string x.name, .int .i64 x.kind, .int .i64 x.metric, .int .i64 s, .int .i64 x.cap, .int .i64 x.fleet, u, um] 25)
  rb : W.heap[w.heap.size + 1]? = some (.cells #[.string ⟨#[]⟩, .int .i64 0, .int .i64 0, .int .i64 0, .int .i64 0, .int .i64 0, .slice none 0 0, .slice none 0 0] 25)
  sz : w.heap.size + 2 ≤ W.heap.size
  below : Below w.heap.size w W
theorem NrmP.p {w W : World} {x : Ins} {u um : Value} {s : Int} {l : List Nd} (h : NrmP w x u um W s l) (j : Nat) : W.cell? ⟨w.heap.size, j, none⟩ = (#[Value.string x.name, .int .i64 x.kind, .int .i64 x.metric, .int .i64 s, .int .i64 x.cap, .int .i64 x.fleet, u, um] : Array Value)[j]? := by
  unfold World.cell?; rw [h.pb]; rfl
theorem NrmP.fp {w W : World} {x : Ins} {u um : Value} {s : Int} {l : List Nd} (h : NrmP w x u um W s l) (j : Nat) : W.frozen? ⟨w.heap.size, j, none⟩ = false := by
  unfold World.frozen?; rw [h.pb]; rfl
theorem NrmP.next {w W W1 : World} {x : Ins} {u um : Value} {s : Int} {l : List Nd} (h : NrmP w x u um W s l) (hB : Below W.heap.size W W1) : NrmP w x u um W1 s l := by
  have hs := h.sz
  exact ⟨h.row.kept (row := none) ⟨hB.os, hB.tape, hB.output, hB.size, fun k hk _ => hB.block k hk⟩ (by cases u.ownBlock <;> simp), h.mrow.kept (row := none) ⟨hB.os, hB.tape, hB.output, hB.size, fun k hk _ => hB.block k hk⟩ (by cases um.ownBlock <;> simp), (hB.block _ (by omega)).trans h.pb, (hB.block _ (by omega)).trans h.rb, Nat.le_trans h.sz hB.size, h.below.trans (hB.mono (by omega))⟩
theorem NrmP.scale {w W : World} {x : Ins} {u um : Value} {s : Int} {l : List Nd} (h : NrmP w x u um W s l) (s' : Int) : NrmP w x u um (W.setCell ⟨w.heap.size, 3, none⟩ (.int .i64 s')) s' l := by
  refine ⟨cowns_set h.row (by show w.heap.size < _; omega) _, cowns_set h.mrow (by show w.heap.size < _; omega) _, ?_, ?_, by have := h.sz; simpa [World.setCell] using this, h.below.setCell (Nat.le_refl _) _⟩
  · have e := h.pb
    simp [World.setCell, Array.getElem?_modify, e]
  · rw [Below.heap_setCell _ _ _ _ (by show w.heap.size + 1 ≠ w.heap.size; omega)]; exact h.rb
/-- A store into the row of nodes. -/
theorem NrmP.shrink {w W : World} {x : Ins} {g c : Nat} {um : Value} {s : Int} {l : List Nd} {n j : Nat} {d : Nd} (h : NrmP w x (.slice (some ⟨g, 0, none⟩) n c) um W s l) (hn : l.length = n) (hd : l[j]? = some d) : NrmP w x (.slice (some ⟨g, 0, none⟩) n c) um ((W.setCell ⟨g, j * 7, none⟩ (.int .i64 (d.x.tdiv 10))).setCell ⟨g, j * 7 + 1, none⟩ (.int .i64 (d.y.tdiv 10))) s (l.set j (shrinkNd d)) := by
  have hrow := h.row
  rw [hn] at hrow
  obtain ⟨g', e, hg⟩ := owns_some hrow (by rw [← hn]; exact Nat.lt_of_le_of_lt (Nat.zero_le _) (List.getElem?_eq_some_iff.1 hd).1)
  obtain rfl : g = g' := by injection e with e; injection e
  have hset : ∀ k, k ≠ g → ((W.setCell ⟨g, j * 7, none⟩ (.int .i64 (d.x.tdiv 10))).setCell ⟨g, j * 7 + 1, none⟩ (.int .i64 (d.y.tdiv 10))).heap[k]? = W.heap[k]? := fun k hk => by
    rw [Below.heap_setCell _ _ _ _ hk, Below.heap_setCell _ _ _ _ hk]
  have r2 := ((hrow.stored (j * 7) (.int .i64 (d.x.tdiv 10))).1.stored (j * 7 + 1) (.int .i64 (d.y.tdiv 10))).1
  rw [flat_set7 hd] at r2
  have hs := h.sz
  refine ⟨by rw [List.length_set, hn]; exact r2, ?_, (hset _ (by omega)).trans h.pb, (hset _ (by omega)).trans h.rb, by simpa [World.setCell] using hs, (h.below.setCell (by show w.heap.size ≤ g; omega) _).setCell (by show w.heap.size ≤ g; omega) _⟩
  refine h.mrow.kept (row := some g) ⟨rfl, rfl, rfl, by simp [World.setCell], fun k _ hk => hset k (fun e => hk (by rw [e]))⟩ (.inr fun e => ?_)
  rcases hrow.2 with ⟨e0, _⟩ | ⟨g1, cap1, cur1, e1, _, hg1, _⟩
  · cases e0
  · rcases h.mrow.2 with ⟨rfl, _⟩ | ⟨g2, cap2, cur2, rfl, _, hg2, _⟩
    · simp [Value.ownBlock] at e
    · have e3 : g2 = g := by simpa [Value.ownBlock] using e
      have e4 : g = g1 := by injection e1 with a; injection a with a; injection a
      rw [e3, e4, hg1] at hg2
      injection hg2 with hg2
      injection hg2 with _ e5
      exact absurd e5 (by decide)
/-- How it begins: the instance in its box, the result's cells. -/
structure NrmB (w : World) (x : Ins) (vn vm : Value) (W : World) : Prop where
  pb : W.heap[w.heap.size]? = some (.cells #[.string x.name, .int .i64 x.kind, .int .i64 x.metric, .int .i64 x.scale, .int .i64 x.cap, .int .i64 x.fleet, vn, vm] 25)
  rb : W.heap[w.heap.size + 1]? = some (.cells #[.string ⟨#[]⟩, .int .i64 0, .int .i64 0, .int .i64 0, .int .i64 0, .int .i64 0, .slice none 0 0, .slice none 0 0] 25)
  sz : w.heap.size + 2 ≤ W.heap.size
  below : Below w.heap.size w W
theorem NrmB.next {w W W1 : World} {x : Ins} {vn vm : Value} (h : NrmB w x vn vm W) (hB : Below W.heap.size W W1) : NrmB w x vn vm W1 := by
  have hs := h.sz
  exact ⟨(hB.block _ (by omega)).trans h.pb, (hB.block _ (by omega)).trans h.rb, Nat.le_trans h.sz hB.size, h.below.trans (hB.mono (by omega))⟩
theorem NrmB.drew {w W : World} {x : Ins} {vn vm : Value} (h : NrmB w x vn vm W) : NrmB w x vn vm W.drew := ⟨h.pb, h.rb, h.sz, h.below.os, h.below.tape, h.below.output, h.below.size, h.below.block⟩
theorem NrmB.cells {w W : World} {x : Ins} {vn vm : Value} (h : NrmB w x vn vm W) : W.cell? ⟨w.heap.size, 6, none⟩ = some vn ∧ W.cell? ⟨w.heap.size, 7, none⟩ = some vm ∧ W.frozen? ⟨w.heap.size, 6, none⟩ = false ∧ W.frozen? ⟨w.heap.size, 7, none⟩ = false := by
  refine ⟨?_, ?_, ?_, ?_⟩
  · unfold World.cell?; rw [h.pb]; rfl
  · unfold World.cell?; rw [h.pb]; rfl
  · unfold World.frozen?; rw [h.pb]; rfl
  · unfold World.frozen?; rw [h.pb]; rfl
theorem owns_up {w : World} {base base' : Nat} {e : TypeId} {size : Nat} {v : Value} {k : Nat} {xs : List Value} (h : w.ownsRow base e size v k xs) (hb : base' ≤ base) : w.ownsRow base' e size v k xs := owns_low h hb
/-- Both copies are made, and stand in the box. -/
theorem nrm_both {w W : World} {x : Ins} {vn vm u um : Value} (h : NrmB w x vn vm W) (h1 : W.ownsRow (w.heap.size + 2) 55 7 u x.nodes.length (x.nodes.flatMap ndC)) (h2 : W.ownsRow (w.heap.size + 2) 3 1 um x.matrix.length (x.matrix.map fun y => .int .i64 y)) : NrmP w x u um ((W.setCell ⟨w.heap.size, 6, none⟩ u).setCell ⟨w.heap.size, 7, none⟩ um) x.scale x.nodes := by
  have hset : ∀ k, k ≠ w.heap.size → ((W.setCell ⟨w.heap.size, 6, none⟩ u).setCell ⟨w.heap.size, 7, none⟩ um).heap[k]? = W.heap[k]? := fun k hk => by
    rw [Below.heap_setCell _ _ _ _ hk, Below.heap_setCell _ _ _ _ hk]
  refine ⟨cowns_set (cowns_set h1 (by show w.heap.size < _; omega) _) (by show w.heap.size < _; omega) _, cowns_set (cowns_set h2 (by show w.heap.size < _; omega) _) (by show w.heap.size < _; omega) _, ?_, (hset _ (by omega)).trans h.rb, by have := h.sz; simpa [World.setCell] using this, (h.below.setCell (Nat.le_refl _) _).setCell (Nat.le_refl _) _⟩
  have e := h.pb
  simp [World.setCell, Array.getElem?_modify, e]
theorem nrm_both' {w W : World} {x : Ins} {vn vm u um : Value} (h : NrmB w x vn vm W) (h1 : W.ownsRow (w.heap.size + 2) 55 7 u x.nodes.length (x.nodes.flatMap ndC)) (h2 : W.ownsRow (w.heap.size + 2) 3 1 um x.matrix.length (x.matrix.map fun y => .int .i64 y)) : NrmP w x u um ((W.setCell ⟨w.heap.size, 7, none⟩ um).setCell ⟨w.heap.size, 6, none⟩ u) x.scale x.nodes := by
  have hset : ∀ k, k ≠ w.heap.size → ((W.setCell ⟨w.heap.size, 7, none⟩ um).setCell ⟨w.heap.size, 6, none⟩ u).heap[k]? = W.heap[k]? := fun k hk => by
    rw [Below.heap_setCell _ _ _ _ hk, Below.heap_setCell _ _ _ _ hk]
  refine ⟨cowns_set (cowns_set h1 (by show w.heap.size < _; omega) _) (by show w.heap.size < _; omega) _, cowns_set (cowns_set h2 (by show w.heap.size < _; omega) _) (by show w.heap.size < _; omega) _, ?_, (hset _ (by omega)).trans h.rb, by have := h.sz; simpa [World.setCell] using this, (h.below.setCell (Nat.le_refl _) _).setCell (Nat.le_refl _) _⟩
  have e := h.pb
  simp [World.setCell, Array.getElem?_modify, e]
theorem owns_next {W W1 : World} {base : Nat} {e : TypeId} {size : Nat} {v : Value} {k : Nat} {xs : List Value} (h : W.ownsRow base e size v k xs) (hB : Below W.heap.size W W1) : W1.ownsRow base e size v k xs :=
  h.kept (row := none) ⟨hB.os, hB.tape, hB.output, hB.size, fun k hk _ => hB.block k hk⟩ (by cases v.ownBlock <;> simp)
set_option maxRecDepth 100000 in
set_option maxHeartbeats 4000000 in
theorem Try.norm_calls (x : Ins) (vn vm : Value) (w : World) (hx : HasIns w vn vm x) (h1 : x.nodes.length ≤ 1000000) (h2 : x.matrix.length ≤ 1000000) (h64 : ∀ d ∈ x.nodes, In64 d) :
    Calls Try.prog 27 #[insV x vn vm] w fun e w' => ∃ un um, e = .returned (insV (norm x) un um) ∧ HasIns w' un um (norm x) ∧ Below w.heap.size w w' := by
  have HCN := Lib.hid (fun W (hB : Below w.heap.size w W) => Try.cloneNodes_calls vn x.nodes W (hx.nodes.next hB) h1)
  have HCM := Lib.hid (fun W (hB : Below w.heap.size w W) => Try.cloneInts_calls vm x.matrix W (hx.matrix.next hB) h2)
  have HAT := Lib.hid (fun v l W (hv : HasNodes W v l) (h : l.length ≤ 1000000) => Try.allTens_calls v l W hv h)
  obtain ⟨an, cn, rfl, _⟩ := hx.nodes.dat
  obtain ⟨am, cm, rfl, _⟩ := hx.matrix.dat
  have H64 := Lib.hid h64
  obtain ⟨L, hL⟩ : ∃ L, x.nodes.length = L := ⟨_, rfl⟩
  obtain ⟨M, hM⟩ : ∃ M, x.matrix.length = M := ⟨_, rfl⟩
  have S0 : NrmB w x (.slice an x.nodes.length cn) (.slice am x.matrix.length cm) ((w.alloc (.cells #[.string x.name, .int .i64 x.kind, .int .i64 x.metric, .int .i64 x.scale, .int .i64 x.cap, .int .i64 x.fleet, .slice an x.nodes.length cn, .slice am x.matrix.length cm] 25)).alloc (.cells #[.string ⟨#[]⟩, .int .i64 0, .int .i64 0, .int .i64 0, .int .i64 0, .int .i64 0, .slice none 0 0, .slice none 0 0] 25)) := by
    obtain ⟨a, b, c⟩ := two_blocks w (.cells #[.string x.name, .int .i64 x.kind, .int .i64 x.metric, .int .i64 x.scale, .int .i64 x.cap, .int .i64 x.fleet, .slice an x.nodes.length cn, .slice am x.matrix.length cm] 25) (.cells #[.string ⟨#[]⟩, .int .i64 0, .int .i64 0, .int .i64 0, .int .i64 0, .int .i64 0, .slice none 0 0, .slice none 0 0] 25) (.cells #[] 25)
    have hb := below_box ((w.alloc (.cells #[.string x.name, .int .i64 x.kind, .int .i64 x.metric, .int .i64 x.scale, .int .i64 x.cap, .int .i64 x.fleet, .slice an x.nodes.length cn, .slice am x.matrix.length cm] 25)).alloc (.cells #[.string ⟨#[]⟩, .int .i64 0, .int .i64 0, .int .i64 0, .int .i64 0, .int .i64 0, .slice none 0 0, .slice none 0 0] 25)) (.cells #[] 25)
    exact ⟨(hb.block _ (by omega)).symm.trans a, (hb.block _ (by omega)).symm.trans b, Nat.le_of_eq c.symm, below_two _ _ _⟩
  have HS := Lib.hid S0
  have HLE := Lib.hid h1
  unfold insV
  clear hx h64 h1 h2 S0
  rw [hL] at HCN HS HLE ⊢
  rw [hM] at HCM HS ⊢
  have HLl := Lib.hid hL
  have HMl := Lib.hid hM
  clear hL hM
  go_enter Try.func27, Try.ntmps27
  go_upto_region 1 with (fail)
  go_cut [3] from 4 to 54 (fun _ wx => ∃ u um, NrmP w x u um wx x.scale x.nodes)
  case first =>
    generalize (w.alloc (.cells #[.string x.name, .int .i64 x.kind, .int .i64 x.metric, .int .i64 x.scale, .int .i64 x.cap, .int .i64 x.fleet, .slice an L cn, .slice am M cm] 25)).alloc (.cells #[.string ⟨#[]⟩, .int .i64 0, .int .i64 0, .int .i64 0, .int .i64 0, .int .i64 0, .slice none 0 0, .slice none 0 0] 25) = W0 at *
    obtain ⟨c6, c7, f6, f7⟩ := HS.out.cells
    obtain ⟨d6, d7, g6, g7⟩ := HS.out.drew.cells
    go_region_with (first
      | (go_at_call 46; (with_reducible refine (HCN.out _ (NrmB.below (by first | assumption | exact HS.out | exact HS.out.drew))).mono ?_); rintro e w1 ⟨u1, rfl, r1, b1⟩; have B1 : NrmB w x (.slice an L cn) (.slice am M cm) w1 := NrmB.next (by first | assumption | exact HS.out | exact HS.out.drew) b1; obtain ⟨a1, k1, rfl⟩ := owns_dat r1; obtain ⟨c6, c7, f6, f7⟩ := NrmB.cells B1)
      | (go_at_call 45; (with_reducible refine (HCM.out _ (NrmB.below (by first | assumption | exact HS.out | exact HS.out.drew))).mono ?_); rintro e w2 ⟨u2, rfl, r2, b2⟩; have B2 : NrmB w x (.slice an L cn) (.slice am M cm) w2 := NrmB.next (by first | assumption | exact HS.out | exact HS.out.drew) b2; obtain ⟨a2, k2, rfl⟩ := owns_dat r2; obtain ⟨c6, c7, f6, f7⟩ := NrmB.cells B2))
    all_goals
      have R : Hid (NrmP w x (.slice a1 L k1) (.slice a2 M k2) ((w2.setCell ⟨w.heap.size, 6, none⟩ (.slice a1 L k1)).setCell ⟨w.heap.size, 7, none⟩ (.slice a2 M k2)) x.scale x.nodes) :=
        nrm_both B2 (by rw [HLl.out]; exact owns_up (owns_next r1 b2) HS.out.sz) (by rw [HMl.out]; exact owns_up r2 B1.sz)
      clear c6 c7 f6 f7 d6 d7 g6 g7 B1 B2 r1 r2 b1 b2
      go_wp2
      go_meet
      exact ⟨_, _, R.out⟩
  case rest =>
  obtain ⟨u, um, hS⟩ := hcut
  obtain ⟨W0, rfl⟩ : ∃ W, W = wc := ⟨_, rfl⟩
  obtain ⟨ao, c0, hu⟩ : ∃ ao c, u = .slice ao L c := by
    obtain ⟨ao, c, h⟩ := owns_dat hS.row
    exact ⟨ao, c, by rw [h, HLl.out]⟩
  obtain ⟨bo, c1, hum⟩ : ∃ ao c, um = .slice ao M c := by
    obtain ⟨ao, c, h⟩ := owns_dat hS.mrow
    exact ⟨ao, c, by rw [h, HMl.out]⟩
  subst hu
  subst hum
  have HP := Lib.hid hS
  clear hS HS HCN HCM
  go_upto_block 0 with (fail)
  go_cut [3] from 4 to 53 (fun _ wx => ∃ (s : Int) (l : List Nd), NrmP w x (.slice ao L c0) (.slice bo M c1) wx s l ∧ l.length = L ∧ norm x = { x with scale := s, nodes := l })
  case first =>
    go_wp2_with (fail)
    go_loopw [3] (fun _ wr => ∃ (s : Int) (l : List Nd), NrmP w x (.slice ao L c0) (.slice bo M c1) wr s l ∧ l.length = L ∧ Hid (norm x = norm { x with scale := s, nodes := l }) ∧ Hid (∀ d ∈ l, In64 d)) (fun _ W => match W.cell? ⟨w.heap.size, 3, none⟩ with | some (.int _ n) => n.toNat | _ => 0)
    case atStart => exact ⟨x.scale, x.nodes, HP.out, HLl.out, rfl, H64.out⟩
    case round =>
      obtain ⟨s, l, hS, hl, hN, HI64⟩ := hrel
      have p3 : wr.cell? ⟨w.heap.size, 3, none⟩ = some (.int .i64 s) := hS.p 3
      have p6 : wr.cell? ⟨w.heap.size, 6, none⟩ = some (.slice ao L c0) := hS.p 6
      have HR := Lib.hid hS
      have HP3 := Lib.hid p3
      by_cases hs1 : 1 ≤ s
      · by_cases hs6 : s ≤ 6
        · have HLk := Lib.hid hl
          have HAl : Hid (Calls Try.prog 47 #[.slice ao L c0] wr fun e w' => e = .returned (.bool (whole l)) ∧ Below wr.heap.size wr w') :=
            HAT.out _ l wr (by have h := nodes_of_owns hS.row; exact h) (by rw [hl]; exact HLE.out)
          clear hS hl
          obtain ⟨b, hb⟩ : ∃ b, whole l = b := ⟨_, rfl⟩
          rw [hb] at HAl
          have HB := Lib.hid hb
          clear hb
          go_wp2_with (fail)
          (with_reducible refine HAl.out.mono ?_)
          rintro e w2 ⟨rfl, hb2⟩
          have HR2 := Lib.hid (HR.out.next hb2)
          have p3' : w2.cell? ⟨w.heap.size, 3, none⟩ = some (.int .i64 s) := HR2.out.p 3
          have p6' : w2.cell? ⟨w.heap.size, 6, none⟩ = some (.slice ao L c0) := HR2.out.p 6
          clear hb2 HAl
          cases b with
          | false =>
            have e := hN.out.trans (norm_not (x := { x with scale := s, nodes := l }) HB.out)
            have R : Hid (∃ (s : Int) (l : List Nd), NrmP w x (.slice ao L c0) (.slice bo M c1) w2 s l ∧ l.length = L ∧ norm x = { x with scale := s, nodes := l }) := ⟨s, l, HR2.out, HLk.out, e⟩
            clear e hN
            go_wp2
            go_meet
            exact R.out
          | true =>
            have HE : Hid (norm x = norm { x with scale := s - 1, nodes := shrink l }) := hN.out.trans (norm_step hs1 hs6 HB.out).symm
            clear hN HR
            go_wp2
            go_loopw [28] (fun i ws => ∃ j : Nat, j ≤ L ∧ i = .int .i64 (j : Int) ∧ NrmP w x (.slice ao L c0) (.slice bo M c1) ws s (mid l j)) (fun i _ => L - (intOf i).toNat)
            case atStart => exact ⟨0, Nat.zero_le _, rfl, by rw [mid_zero]; exact HR2.out⟩
            case round =>
              obtain ⟨j, hj, rfl, hS⟩ := hrel
              have HS3 := Lib.hid hS
              have hml : (mid l j).length = L := by rw [mid_len l (by rw [HLk.out]; exact hj), HLk.out]
              have row := hS.row
              rw [hml] at row
              clear p3 p6 p3' p6'
              by_cases hlt : j < L
              · have hki : (j : Int) < (L : Int) := by omega
                obtain ⟨d, hd⟩ : ∃ d, l[j]? = some d := ⟨_, List.getElem?_eq_getElem (by have := HLk.out; omega)⟩
                obtain ⟨g, rfl, hg⟩ := owns_some row (by omega)
                have hmd := mid_get hd
                have q6 : wr.cell? ⟨w.heap.size, 6, none⟩ = some (.slice (some ⟨g, 0, none⟩) L c0) := hS.p 6
                have x0 : wr.cell? ⟨g, j * 7, none⟩ = some (.int .i64 d.x) := (World.ownsRow.cellAt row (j * 7) (by omega)).trans (by rw [show j * 7 = j * 7 + 0 from rfl, flat_get (f := ndC) (s := 7) (fun _ => rfl) hmd (by omega)]; rfl)
                have x1 : wr.cell? ⟨g, j * 7 + 1, none⟩ = some (.int .i64 d.y) := (World.ownsRow.cellAt row (j * 7 + 1) (by omega)).trans (by rw [flat_get (f := ndC) (s := 7) (fun _ => rfl) hmd (by omega)]; rfl)
                have f0 := row.frozenAt (j * 7)
                have f1 := row.frozenAt (j * 7 + 1)
                have q6' : ∀ u, (wr.setCell ⟨g, j * 7, none⟩ u).cell? ⟨w.heap.size, 6, none⟩ = some (.slice (some ⟨g, 0, none⟩) L c0) := fun u => (World.cell?_of_block (a := ⟨w.heap.size, 6, none⟩) (Below.heap_setCell _ _ _ _ (by show w.heap.size ≠ g; omega))).trans q6
                have R : Hid (NrmP w x (.slice (some ⟨g, 0, none⟩) L c0) (.slice bo M c1) ((wr.setCell ⟨g, j * 7, none⟩ (.int .i64 (wrap64 (d.x.tdiv 10)))).setCell ⟨g, j * 7 + 1, none⟩ (.int .i64 (wrap64 (d.y.tdiv 10)))) s (mid l (j + 1))) := by
                  have h64 := HI64.out d (List.mem_of_getElem? hd)
                  rw [wrap_ten h64.1, wrap_ten h64.2, ← mid_set hd]
                  exact hS.shrink hml hmd
                clear hS hd hmd row hml
                have hle := HLE.out
                go_wp2
                go_roundw
                case rel => exact ⟨j + 1, by omega, by go_num, R.out⟩
                case measure => simp [intOf]; omega
              · obtain rfl : j = L := by omega
                have hmm : mid l j = shrink l := by rw [← HLk.out]; exact mid_all l
                have q3 : wr.cell? ⟨w.heap.size, 3, none⟩ = some (.int .i64 s) := hS.p 3
                have fq := hS.fp 3
                have R : Hid (NrmP w x (.slice ao j c0) (.slice bo M c1) (wr.setCell ⟨w.heap.size, 3, none⟩ (.int .i64 (s - 1))) (s - 1) (shrink l)) := by
                  have := hS.scale (s - 1)
                  rw [hmm] at this
                  exact this
                clear hS row hml hmm HS3
                go_wp2
                refine ⟨⟨s - 1, shrink l, R.out, by rw [shrink_length, HLk.out], HE.out, in_shrink HI64.out⟩, ?_⟩
                rw [show _ = _ from R.out.p 3, HP3.out]
                show (s - 1).toNat < s.toNat
                omega
        · have e := hN.out.trans (norm_out (x := { x with scale := s, nodes := l }) (fun h => hs6 h.2))
          have R : Hid (∃ (s : Int) (l : List Nd), NrmP w x (.slice ao L c0) (.slice bo M c1) wr s l ∧ l.length = L ∧ norm x = { x with scale := s, nodes := l }) := ⟨s, l, hS, hl, e⟩
          clear hS hl e hN
          go_wp2
          go_meet
          exact R.out
      · have e := hN.out.trans (norm_out (x := { x with scale := s, nodes := l }) (fun h => hs1 h.1))
        have R : Hid (∃ (s : Int) (l : List Nd), NrmP w x (.slice ao L c0) (.slice bo M c1) wr s l ∧ l.length = L ∧ norm x = { x with scale := s, nodes := l }) := ⟨s, l, hS, hl, e⟩
        clear hS hl e hN
        go_wp2
        go_meet
        exact R.out
  case rest =>
    obtain ⟨s, l, hS, hl, hN⟩ := hcut
    obtain ⟨W1, rfl⟩ : ∃ W, W = wc := ⟨_, rfl⟩
    have HE := Lib.hid hN
    have HLk := Lib.hid hl
    have rb := hS.rb
    have y0 : W1.cell? ⟨w.heap.size, 0, none⟩ = some (.string x.name) := hS.p 0
    have r0 : W1.cell? ⟨w.heap.size + 1, 0, none⟩ = some (.string ⟨#[]⟩) := by unfold World.cell?; rw [rb]; rfl
    have f0 : W1.frozen? ⟨w.heap.size + 1, 0, none⟩ = false := by unfold World.frozen?; rw [rb]; rfl
    have y1 : W1.cell? ⟨w.heap.size, 1, none⟩ = some (.int .i64 x.kind) := hS.p 1
    have r1 : W1.cell? ⟨w.heap.size + 1, 1, none⟩ = some (.int .i64 0) := by unfold World.cell?; rw [rb]; rfl
    have f1 : W1.frozen? ⟨w.heap.size + 1, 1, none⟩ = false := by unfold World.frozen?; rw [rb]; rfl
    have y2 : W1.cell? ⟨w.heap.size, 2, none⟩ = some (.int .i64 x.metric) := hS.p 2
    have r2 : W1.cell? ⟨w.heap.size + 1, 2, none⟩ = some (.int .i64 0) := by unfold World.cell?; rw [rb]; rfl
    have f2 : W1.frozen? ⟨w.heap.size + 1, 2, none⟩ = false := by unfold World.frozen?; rw [rb]; rfl
    have y3 : W1.cell? ⟨w.heap.size, 3, none⟩ = some (.int .i64 s) := hS.p 3
    have r3 : W1.cell? ⟨w.heap.size + 1, 3, none⟩ = some (.int .i64 0) := by unfold World.cell?; rw [rb]; rfl
    have f3 : W1.frozen? ⟨w.heap.size + 1, 3, none⟩ = false := by unfold World.frozen?; rw [rb]; rfl
    have y4 : W1.cell? ⟨w.heap.size, 4, none⟩ = some (.int .i64 x.cap) := hS.p 4
    have r4 : W1.cell? ⟨w.heap.size + 1, 4, none⟩ = some (.int .i64 0) := by unfold World.cell?; rw [rb]; rfl
    have f4 : W1.frozen? ⟨w.heap.size + 1, 4, none⟩ = false := by unfold World.frozen?; rw [rb]; rfl
    have y5 : W1.cell? ⟨w.heap.size, 5, none⟩ = some (.int .i64 x.fleet) := hS.p 5
    have r5 : W1.cell? ⟨w.heap.size + 1, 5, none⟩ = some (.int .i64 0) := by unfold World.cell?; rw [rb]; rfl
    have f5 : W1.frozen? ⟨w.heap.size + 1, 5, none⟩ = false := by unfold World.frozen?; rw [rb]; rfl
    have y6 : W1.cell? ⟨w.heap.size, 6, none⟩ = some (.slice ao L c0) := hS.p 6
    have r6 : W1.cell? ⟨w.heap.size + 1, 6, none⟩ = some (.slice none 0 0) := by unfold World.cell?; rw [rb]; rfl
    have f6 : W1.frozen? ⟨w.heap.size + 1, 6, none⟩ = false := by unfold World.frozen?; rw [rb]; rfl
    have y7 : W1.cell? ⟨w.heap.size, 7, none⟩ = some (.slice bo M c1) := hS.p 7
    have r7 : W1.cell? ⟨w.heap.size + 1, 7, none⟩ = some (.slice none 0 0) := by unfold World.cell?; rw [rb]; rfl
    have f7 : W1.frozen? ⟨w.heap.size + 1, 7, none⟩ = false := by unfold World.frozen?; rw [rb]; rfl
    have HRR := Lib.hid hS
    clear hS rb hN hl HP
    go_wp2
    refine bodyPost_ret (v := .agg #[.string x.name, .int .i64 x.kind, .int .i64 x.metric, .int .i64 s, .int .i64 x.cap, .int .i64 x.fleet, .slice ao L c0, .slice bo M c1]) (by simp [results, Try.results27, go_sem, r0, r1, r2, r3, r4, r5, r6, r7]) rfl ⟨.slice ao L c0, .slice bo M c1, by rw [HE.out], ?_, ?_⟩
    · rw [HE.out]
      exact ⟨nodes_of_owns (base := w.heap.size + 2) (e := 55) (by rw [HLk.out]; have h := its_ret HRR.out.row (Nat.lt_succ_self _) (.string x.name) (.int .i64 x.kind) (.int .i64 x.metric) (.int .i64 s) (.int .i64 x.cap) (.int .i64 x.fleet) (.slice ao L c0) (.slice bo M c1); rw [HLk.out] at h; exact h), nums_of_owns (base := w.heap.size + 2) (e := 3) (by rw [HMl.out]; have h := its_ret HRR.out.mrow (Nat.lt_succ_self _) (.string x.name) (.int .i64 x.kind) (.int .i64 x.metric) (.int .i64 s) (.int .i64 x.cap) (.int .i64 x.fleet) (.slice ao L c0) (.slice bo M c1); rw [HMl.out] at h; exact h)⟩
    · exact ((((((((HRR.out.below.setCell (by simp) _).setCell (by simp) _).setCell (by simp) _).setCell (by simp) _).setCell (by simp) _).setCell (by simp) _).setCell (by simp) _).setCell (by simp) _)
end Go.Proofs
/- Plain facts on plans: routes of stops, their normal form, what is counted and found; no program. -/
namespace Go.Plans
/-- Routes of stops. -/
abbrev Rts := List (List Int)
def many (rr : Rts) : Nat := (rr.map List.length).sum
def stopsIn (rr : Rts) : Bool := rr.all fun r => r.all fun s => decide (0 ≤ s) && decide (s ≤ 399)
/-- plan.Check: 0, ErrArg 1, ErrFull 2. -/
def checkE (rr : Rts) : Int := if 400 < rr.length ∨ 2000 < many rr then 2 else if stopsIn rr = true then 0 else 1
def normR (rr : Rts) : Rts := rr.filter fun r => !r.isEmpty
/-- The first place of a stop on a route. -/
def place (s : Int) : List Int → Option Nat
  | [] => none
  | a :: l => if a = s then some 0 else (place s l).map (· + 1)
/-- The first route with a stop, and its place there. -/
def findR (s : Int) : Rts → Option (Nat × Nat)
  | [] => none
  | r :: rr => match place s r with
    | some k => some (0, k)
    | none => (findR s rr).map fun p => (p.1 + 1, p.2)
def countR (rr : Rts) (c : Int) : Nat := (rr.map fun r => r.count c).sum
def countL (rr : Rts) (n : Nat) : List Int := (List.range n).map fun (c : Nat) => (countR rr (c : Int) : Int)
theorem many_cons (r : List Int) (rr : Rts) : many (r :: rr) = r.length + many rr := by simp [many]
theorem many_flat (rr : Rts) : many rr = rr.flatten.length := by simp [many, List.length_flatten]
theorem many_append (a b : Rts) : many (a ++ b) = many a + many b := by simp [many]
theorem countR_flat (rr : Rts) (c : Int) : countR rr c = rr.flatten.count c := by
  induction rr with
  | nil => rfl
  | cons r rr ih => simp only [countR, List.map_cons, List.sum_cons, List.flatten_cons, List.count_append] at ih ⊢; rw [ih]
theorem countR_append (a b : Rts) (c : Int) : countR (a ++ b) c = countR a c + countR b c := by simp [countR]
theorem norm_flat (rr : Rts) : (normR rr).flatten = rr.flatten := by
  induction rr with
  | nil => rfl
  | cons r rr ih =>
    unfold normR at ih ⊢
    cases r with
    | nil => simpa using ih
    | cons a l => simp [ih]
theorem pnorm_own (rr : Rts) : normR (normR rr) = normR rr := by unfold normR; rw [List.filter_filter]; simp
theorem norm_many (rr : Rts) : many (normR rr) = many rr := by rw [many_flat, many_flat, norm_flat]
theorem norm_count (rr : Rts) (c : Int) : countR (normR rr) c = countR rr c := by rw [countR_flat, countR_flat, norm_flat]
theorem norm_counts (rr : Rts) (n : Nat) : countL (normR rr) n = countL rr n := by
  unfold countL; congr 1; funext c; rw [norm_count]
theorem norm_none {rr : Rts} {r : List Int} (h : r ∈ normR rr) : r ≠ [] := by
  intro e
  rw [e] at h
  simp [normR] at h
theorem place_none {s : Int} : ∀ {l : List Int}, place s l = none ↔ s ∉ l
  | [] => by simp [place]
  | a :: l => by
    unfold place
    by_cases h : a = s
    · simp [h]
    · rw [if_neg h, Option.map_eq_none_iff, place_none (l := l)]
      simp only [List.mem_cons, not_or]
      exact ⟨fun h2 => ⟨fun e => h e.symm, h2⟩, fun h2 => h2.2⟩
theorem place_get {s : Int} : ∀ {l : List Int} {k : Nat}, place s l = some k → l[k]? = some s
  | [], k, h => by simp [place] at h
  | a :: l, k, h => by
    unfold place at h
    by_cases he : a = s
    · rw [if_pos he] at h
      cases h
      simp [he]
    · rw [if_neg he] at h
      obtain ⟨j, hj, rfl⟩ := Option.map_eq_some_iff.1 h
      simpa using place_get hj
theorem findR_none {s : Int} : ∀ {rr : Rts}, findR s rr = none ↔ s ∉ rr.flatten
  | [] => by simp [findR]
  | r :: rr => by
    unfold findR
    cases h : place s r with
    | none =>
      have h1 := place_none.1 h
      simp only [Option.map_eq_none_iff, findR_none (rr := rr), List.flatten_cons, List.mem_append, not_or]
      exact ⟨fun h2 => ⟨h1, h2⟩, fun h2 => h2.2⟩
    | some k =>
      have h1 := List.mem_of_getElem? (place_get h)
      simp [h1]
theorem findR_get {s : Int} : ∀ {rr : Rts} {i k : Nat}, findR s rr = some (i, k) → ∃ r, rr[i]? = some r ∧ r[k]? = some s
  | [], i, k, h => by simp [findR] at h
  | r :: rr, i, k, h => by
    unfold findR at h
    cases hp : place s r with
    | some j =>
      rw [hp] at h
      cases h
      exact ⟨r, rfl, place_get hp⟩
    | none =>
      rw [hp] at h
      obtain ⟨⟨i', k'⟩, h1, h2⟩ := Option.map_eq_some_iff.1 h
      cases h2
      obtain ⟨r', h3, h4⟩ := findR_get h1
      exact ⟨r', by simpa using h3, h4⟩
theorem findR_cons (s : Int) (r : List Int) (rr : Rts) : findR s (r :: rr) = match place s r with
    | some k => some (0, k)
    | none => (findR s rr).map fun p => (p.1 + 1, p.2) := rfl
theorem findR_append (s : Int) (q : Rts) : ∀ p : Rts, findR s (p ++ q) = match findR s p with
    | some x => some x
    | none => (findR s q).map fun x => (x.1 + p.length, x.2)
  | [] => by simp [findR]
  | r :: p => by
    rw [List.cons_append, findR_cons, findR_cons, findR_append s q p]
    cases place s r with
    | some k => rfl
    | none =>
      cases findR s p with
      | some x => rfl
      | none =>
        cases findR s q with
        | none => rfl
        | some x =>
          show some (x.1 + p.length + 1, x.2) = some (x.1 + (p.length + 1), x.2)
          rw [Nat.add_assoc]
theorem findR_norm (s : Int) : ∀ rr : Rts, (findR s (normR rr)).map (·.2) = (findR s rr).map (·.2)
  | [] => rfl
  | r :: rr => by
    have ih := findR_norm s rr
    cases r with
    | nil =>
      have e : normR ([] :: rr) = normR rr := rfl
      rw [e, ih]
      show _ = (Option.map (fun p => (p.1 + 1, p.2)) (findR s rr)).map (·.2)
      cases findR s rr <;> rfl
    | cons a l =>
      have e : normR ((a :: l) :: rr) = (a :: l) :: normR rr := rfl
      rw [e]
      unfold findR
      cases place s (a :: l) with
      | some k => rfl
      | none =>
        dsimp only
        rw [Option.map_map, Option.map_map]
        have f1 : ((fun x : Nat × Nat => x.2) ∘ fun p : Nat × Nat => (p.1 + 1, p.2)) = (fun x => x.2) := rfl
        rw [f1]
        exact ih
theorem found_iff (s : Int) (rr : Rts) : (findR s rr).isSome = decide (0 < countR rr s) := by
  rw [countR_flat]
  cases h : findR s rr with
  | none => have := findR_none.1 h; simp [List.count_eq_zero.2 this]
  | some p =>
    have : s ∈ rr.flatten := by
      apply Classical.byContradiction
      intro hn
      rw [findR_none.2 hn] at h
      cases h
    simp [List.count_pos_iff.2 this]
/-- How many of a list are 0 to n. -/
theorem counts_within : ∀ (l : List Int) (n : Nat), ((List.range n).map fun (c : Nat) => l.count (c : Int)).sum = (l.filter fun (s : Int) => decide (0 ≤ s) && decide (s < (n : Int))).length := by
  intro l n
  induction n with
  | zero =>
    have : (l.filter fun (s : Int) => decide (0 ≤ s) && decide (s < ((0 : Nat) : Int))) = [] := by
      rw [List.filter_eq_nil_iff]; intro a _; simp
    rw [this]; rfl
  | succ n ih =>
    rw [List.range_succ, List.map_append, List.sum_append, ih]
    simp only [List.map_cons, List.map_nil, List.sum_cons, List.sum_nil, Nat.add_zero]
    clear ih
    induction l with
    | nil => rfl
    | cons a l ihl =>
      rw [List.count_cons, List.filter_cons, List.filter_cons]
      by_cases h1 : a = (n : Int)
      · subst h1
        have e1 : (decide ((0 : Int) ≤ (n : Int)) && decide ((n : Int) < (n : Int))) = false := by simp
        have e2 : (decide ((0 : Int) ≤ (n : Int)) && decide ((n : Int) < ((n + 1 : Nat) : Int))) = true := by simp; omega
        rw [e1, e2]
        simp only [beq_self_eq_true, if_true, Bool.false_eq_true, if_false, List.length_cons]
        omega
      · have e3 : (a == (n : Int)) = false := by simp [h1]
        have e4 : (decide ((0 : Int) ≤ a) && decide (a < ((n + 1 : Nat) : Int))) = (decide ((0 : Int) ≤ a) && decide (a < (n : Int))) := by
          rw [Bool.eq_iff_iff]; simp; omega
        rw [e3, e4]
        split <;> simp_all <;> omega
theorem counts_sum (rr : Rts) (n : Nat) : ((List.range n).map fun (c : Nat) => countR rr (c : Int)).sum = (rr.flatten.filter fun (s : Int) => decide (0 ≤ s) && decide (s < (n : Int))).length := by
  rw [← counts_within]
  congr 1
  apply List.map_congr_left
  intro c _
  exact countR_flat rr _
theorem counts_most (rr : Rts) (n : Nat) : ((List.range n).map fun (c : Nat) => countR rr (c : Int)).sum ≤ many rr := by
  rw [counts_sum, many_flat]; exact List.length_filter_le _ _
theorem counts_all {rr : Rts} {n : Nat} (h : ∀ s ∈ rr.flatten, 0 ≤ s ∧ s < n) : ((List.range n).map fun (c : Nat) => countR rr (c : Int)).sum = many rr := by
  rw [counts_sum, many_flat, List.filter_eq_self.2]
  intro s hs
  have := h s hs
  simp; omega
#print axioms counts_all
#print axioms findR_norm
#print axioms findR_append
#print axioms found_iff
end Go.Plans
