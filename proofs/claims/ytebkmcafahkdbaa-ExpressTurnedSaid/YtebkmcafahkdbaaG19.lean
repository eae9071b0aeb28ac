/- turned: an instance with a field as a format can express it. Conditions: 1000 nodes at most. -/
import Derived.Test.YtebkmcafahkdbaaG18
import Derived.Test.YtebkmcafahkdbaaG05
import Derived.Test.YtebkmcafahkdbaaG04
import Derived.ArgAppend
import Derived.Deep.DrawnRows
import Derived.Deep.RegionHeld3
import Derived.Deep.Cut
import Derived.Deep.CutRange
import Derived.Deep.CutBlock
import Derived.IntWalk
namespace Go
open Go.RowKit
attribute [local go_sem] Oper.semAt_some
theorem run_append_nothingE {P : Program} {w : World} (base : Nat) (t ty e : TypeId) (i : TypeInfo) (size : Nat) (ht : P.underlying t = some (.slice e)) (hi : P.info? e = some i)
    (v : Value) (n : Nat) (xs : List Value) (hown : w.ownsRow base e size v n xs) (ao : Option Addr) (c : Nat) :
    (Builtin.append_ #[t, t] ty #[v, .slice ao 0 c]).run P w = .ok v w := by
  rcases hown.2 with ⟨rfl, rfl⟩ | ⟨g, cap, cur, rfl, _, _, hnc, _⟩
  · cases ao with
    | none => simp [Builtin.append_, run_underlying ht, sizeOf, typeInfo, hi, Builtin.lenOf, Builtin.firstCells]
    | some ad => simp [Builtin.append_, run_underlying ht, sizeOf, typeInfo, hi, Builtin.lenOf, Builtin.firstCells, loadCells, loadCellsFrom]
  · cases ao with
    | none => simp [Builtin.append_, run_underlying ht, sizeOf, typeInfo, hi, Builtin.lenOf, Builtin.firstCells, hnc, storeCells]
    | some ad => simp [Builtin.append_, run_underlying ht, sizeOf, typeInfo, hi, Builtin.lenOf, Builtin.firstCells, hnc, storeCells, loadCells, loadCellsFrom]
theorem wpList_append_nothingE {P : Program} {w : World} {ops : Array Oper} {rest : List Oper} {o : Oper} {a : Act} {Q : Exit → Act → World → Prop} (hgd : o.guard = none) (s x : Operand) (t : TypeId)
    (ho : o.op = .call { callee := .builtin .append, args := #[s, x], argTypes := #[t, t] })
    (base : Nat) (e : TypeId) (i : TypeInfo) (size : Nat) (ht : P.underlying t = some (.slice e)) (hi : P.info? e = some i)
    (v : Value) (n : Nat) (xs : List Value) (hs : a.eval s = v) (hown : w.ownsRow base e size v n xs) (ao : Option Addr) (c : Nat) (hx : a.eval x = .slice ao 0 c)
    (h : wpList P ops Q rest (a.put o.dst v) w) : wpList P ops Q (o :: rest) a w := by
  refine wpList_plain hgd fun K hK => ?_
  have hrun := run_append_nothingE (P := P) (w := w) base t o.type e i size ht hi v n xs hown ao c
  unfold Oper.wp
  simp [execOp, ho, resolve, invoke, builtin, hs, hx, hrun, Result.andThen]
  exact hK _ _ h
end Go
namespace Go.Proofs
open Go.RowKit Go.Shelf Go.Canon Go.Expr
attribute [local go_sem] Oper.semAt_some
attribute [local go_sem ↓] Go.wp_at_zero Go.wp_at_succ
theorem Try.info40e : (Try.prog.info? 40).map (fun i => (i.zero, i.size, i.bytes)) = some (some (.agg #[.int .i64 0, .int .i64 0, .int .i64 0, .int .i64 0, .int .i64 0, .int .i64 0, .int .i64 0]), 7, 56) := by kernel_rfl
theorem InsBox.frozenE {W : World} {B : Nat} {x : Ins} {vn vm : Value} {t : TypeId} (h : InsBox W B x vn vm t) (j : Nat) : W.frozen? ⟨B, j, none⟩ = false := by
  unfold InsBox at h; unfold World.frozen?; rw [h]; rfl
theorem InsBox.putE {W : World} {B j : Nat} {x y : Ins} {vn vm un um : Value} {t : TypeId} {u : Value} (h : InsBox W B x vn vm t)
    (he : (#[Value.string x.name, .int .i64 x.kind, .int .i64 x.metric, .int .i64 x.scale, .int .i64 x.cap, .int .i64 x.fleet, vn, vm] : Array Value).setIfInBounds j u = #[Value.string y.name, .int .i64 y.kind, .int .i64 y.metric, .int .i64 y.scale, .int .i64 y.cap, .int .i64 y.fleet, un, um]) : InsBox (W.setCell ⟨B, j, none⟩ u) B y un um t := by
  unfold InsBox at h ⊢
  rw [← he]
  simp [World.setCell, Array.getElem?_modify, h]
theorem flat_put7 : ∀ {l : List Nd} {k j : Nat} {d d' : Nd} {u : Value}, l[k]? = some d → j < 7 → (ndC d).set j u = ndC d' → (l.flatMap ndC).set (k * 7 + j) u = (l.set k d').flatMap ndC
  | [], k, j, d, d', u, h, _, _ => by simp at h
  | a :: l, 0, j, d, d', u, h, hj, he => by
    have e : a = d := by simpa using h
    subst e
    rw [List.flatMap_cons, List.set_cons_zero, List.flatMap_cons, ← he, Nat.zero_mul, Nat.zero_add, List.set_append_left _ _ hj]
  | a :: l, k + 1, j, d, d', u, h, hj, he => by
    have h' : l[k]? = some d := by simpa using h
    have hl : (ndC a).length = 7 := rfl
    rw [List.flatMap_cons, List.set_cons_succ, List.flatMap_cons, ← flat_put7 h' hj he, List.set_append_right _ _ (by rw [hl]; omega), hl]
    rw [show (k + 1) * 7 + j - 7 = k * 7 + j by omega]
/-- In the middle of turned: what came in, the result's box, the other instance in its box, its own row of nodes. -/
structure TuS (w : World) (x : Ins) (vn vm : Value) (y : Ins) (vr : Value) (n : Nat) (l : List Nd) (W : World) : Prop where
  xb : InsBox W w.heap.size x vn vm 25
  rb : W.heap[w.heap.size + 1]? = some (.cells #[.string ⟨#[]⟩, .int .i64 0, .int .i64 0, .int .i64 0, .int .i64 0, .int .i64 0, .slice none 0 0, .slice none 0 0] 25)
  qb : InsBox W (w.heap.size + 1 + 1) y vr vm 25
  row : W.ownsRow (w.heap.size + 1 + 1 + 1) 40 7 vr n (l.flatMap ndC)
  below : Below w.heap.size w W
theorem TuS.drew {w W : World} {x y : Ins} {vn vm vr : Value} {n : Nat} {l : List Nd} (h : TuS w x vn vm y vr n l W) : TuS w x vn vm y vr n l W.drew := ⟨h.xb, h.rb, h.qb, h.row, h.below.drew⟩
theorem TuS.put {w W : World} {x y z : Ins} {vn vm vr : Value} {n j : Nat} {l : List Nd} {u : Value} (h : TuS w x vn vm y vr n l W)
    (he : (#[Value.string y.name, .int .i64 y.kind, .int .i64 y.metric, .int .i64 y.scale, .int .i64 y.cap, .int .i64 y.fleet, vr, vm] : Array Value).setIfInBounds j u = #[Value.string z.name, .int .i64 z.kind, .int .i64 z.metric, .int .i64 z.scale, .int .i64 z.cap, .int .i64 z.fleet, vr, vm]) : TuS w x vn vm z vr n l (W.setCell ⟨w.heap.size + 1 + 1, j, none⟩ u) := by
  have hb : Below (w.heap.size + 1 + 1) W (W.setCell ⟨w.heap.size + 1 + 1, j, none⟩ u) := (Below.refl (w.heap.size + 1 + 1) W).setCell (Nat.le_refl _) _
  exact ⟨h.xb.below hb (by omega), (hb.block _ (by omega)).trans h.rb, h.qb.putE he, cowns_set h.row (Nat.lt_succ_self _) _, h.below.trans (hb.mono (by omega))⟩
/-- One of a node's fields. -/
theorem TuS.field {w W : World} {x y : Ins} {vn vm : Value} {g rc n k j : Nat} {l : List Nd} {d d' : Nd} {u : Value} (h : TuS w x vn vm y (.slice (some ⟨g, 0, none⟩) n rc) n l W) (hn : 0 < n) (hk : l[k]? = some d) (hj : j < 7) (he : (ndC d).set j u = ndC d') : TuS w x vn vm y (.slice (some ⟨g, 0, none⟩) n rc) n (l.set k d') (W.setCell ⟨g, k * 7 + j, none⟩ u) := by
  obtain ⟨g', e, hg⟩ := owns_some h.row hn
  obtain rfl : g = g' := by injection e with a; injection a
  have hb : Below (w.heap.size + 1 + 1 + 1) W (W.setCell ⟨g, k * 7 + j, none⟩ u) := (Below.refl _ _).setCell hg _
  have r := (h.row.stored (k * 7 + j) u).1
  rw [flat_put7 hk hj he] at r
  exact ⟨h.xb.below hb (by omega), (hb.block _ (by omega)).trans h.rb, h.qb.below hb (by omega), r, h.below.trans (hb.mono (by omega))⟩
theorem TuS.nd {w W : World} {x y : Ins} {vn vm : Value} {g rc n k j : Nat} {l : List Nd} {d : Nd} {u : Value} (h : TuS w x vn vm y (.slice (some ⟨g, 0, none⟩) n rc) n l W) (hk : l[k]? = some d) (hj : j < 7) (he : (ndC d)[j]? = some u) : W.cell? ⟨g, k * 7 + j, none⟩ = some u := by
  have e : (l.flatMap ndC)[k * 7 + j]? = some u := by rw [flat_get (f := ndC) (s := 7) (fun _ => rfl) hk hj]; exact he
  have h2 := h.row.cells (g := g) rfl (k * 7 + j) _ e
  rw [Addr.add_lit, Nat.zero_add] at h2
  exact h2
theorem tuS_made {w W : World} {x : Ins} {vn vm vr : Value} {n : Nat}
    (hx : InsBox W w.heap.size x vn vm 25) (hr : W.heap[w.heap.size + 1]? = some (.cells #[.string ⟨#[]⟩, .int .i64 0, .int .i64 0, .int .i64 0, .int .i64 0, .int .i64 0, .slice none 0 0, .slice none 0 0] 25)) (hq : InsBox W (w.heap.size + 1 + 1) x vn vm 25)
    (hown : W.ownsRow (w.heap.size + 1 + 1 + 1) 40 7 vr n (x.nodes.flatMap ndC)) (hB : Below w.heap.size w W) : TuS w x vn vm x vr n x.nodes (W.setCell ⟨w.heap.size + 1 + 1, 6, none⟩ vr) := by
  have hb : Below (w.heap.size + 1 + 1) W (W.setCell ⟨w.heap.size + 1 + 1, 6, none⟩ vr) := (Below.refl (w.heap.size + 1 + 1) W).setCell (Nat.le_refl _) _
  exact ⟨hx.below hb (by omega), (hb.block _ (by omega)).trans hr, hq.putE rfl, cowns_set hown (Nat.lt_succ_self _) _, hB.trans (hb.mono (by omega))⟩
theorem ex_three_blocks (w : World) (A B C : Obj) : (((w.alloc A).alloc B).alloc C).heap[w.heap.size]? = some A ∧ (((w.alloc A).alloc B).alloc C).heap[w.heap.size + 1]? = some B ∧ (((w.alloc A).alloc B).alloc C).heap[w.heap.size + 2]? = some C ∧ (((w.alloc A).alloc B).alloc C).heap.size = w.heap.size + 3 ∧ Below w.heap.size w (((w.alloc A).alloc B).alloc C) := by
  have h := two_blocks w A B C
  have hc := World.alloc_heap_new ((w.alloc A).alloc B) C
  rw [h.2.2] at hc
  refine ⟨h.1, h.2.1, hc, by rw [World.size_alloc, h.2.2], ?_⟩
  exact (((Below.refl _ w).alloc (Nat.le_refl _) A).alloc (by rw [World.size_alloc]; omega) B).alloc (by rw [h.2.2]; omega) C
set_option maxRecDepth 100000 in
set_option maxHeartbeats 4000000 in
theorem Try.turned_calls (f g : Int) (h1 : 1 ≤ f) (h3 : f ≤ 3) (x : Ins) (vn vm : Value) (w : World) (hx : HasIns w vn vm x) (hl : x.nodes.length ≤ 1000) :
    Calls Try.prog 15 #[.int .i64 f, .int .i64 g, insV x vn vm] w fun e w' => ∃ v', e = .returned (insV (turn f g x) v' vm) ∧ HasIns w' v' vm (turn f g x) ∧ Below w.heap.size w w' := by
  have HX := Lib.hid hx
  obtain ⟨i0, hi, hz0, hz1, hz2⟩ := info_parts Try.info40e
  have HI0 := Lib.hid hi
  have HFL : Hid ((x.nodes.flatMap ndC).length = x.nodes.length * 7) := flat_len (f := ndC) (s := 7) (fun _ => rfl) _
  obtain ⟨an, cn, rfl, hnat⟩ := hx.nodes.dat
  obtain ⟨am, cm, rfl, _⟩ := hx.matrix.dat
  have HNT := Lib.hid hnat
  have HRES : Hid (∀ v', insV (turn f g x) v' (.slice am x.matrix.length cm) = .agg #[.string (turn f g x).name, .int .i64 (turn f g x).kind, .int .i64 (turn f g x).metric, .int .i64 (turn f g x).scale, .int .i64 (turn f g x).cap, .int .i64 (turn f g x).fleet, v', (.slice am x.matrix.length cm)]) := fun _ => rfl
  unfold insV
  clear hx hi hnat
  obtain ⟨L, hL⟩ : ∃ L, x.nodes.length = L := ⟨_, rfl⟩
  rw [hL] at hl HFL HX ⊢
  have HLE := Lib.hid hL
  clear hL
  generalize x.matrix.length = M at *
  have HB3 := Lib.hid (ex_three_blocks w (.cells #[.string x.name, .int .i64 x.kind, .int .i64 x.metric, .int .i64 x.scale, .int .i64 x.cap, .int .i64 x.fleet, (.slice an L cn), (.slice am M cm)] 25) (.cells #[.string ⟨#[]⟩, .int .i64 0, .int .i64 0, .int .i64 0, .int .i64 0, .int .i64 0, .slice none 0 0, .slice none 0 0] 25) (.cells #[.string x.name, .int .i64 x.kind, .int .i64 x.metric, .int .i64 x.scale, .int .i64 x.cap, .int .i64 x.fleet, (.slice an L cn), (.slice am M cm)] 25))
  go_enter Try.func15, Try.ntmps15
  go_upto_region 2 with (fail)
  go_cut [8] from 10 to 14 (fun _ wx => ∃ ao rc, TuS w x (.slice an L cn) (.slice am M cm) x (.slice ao L rc) L x.nodes wx)
  case first =>
    have HOE : Hid (((((w.alloc (.cells #[.string x.name, .int .i64 x.kind, .int .i64 x.metric, .int .i64 x.scale, .int .i64 x.cap, .int .i64 x.fleet, (.slice an L cn), (.slice am M cm)] 25)).alloc (.cells #[.string ⟨#[]⟩, .int .i64 0, .int .i64 0, .int .i64 0, .int .i64 0, .int .i64 0, .slice none 0 0, .slice none 0 0] 25)).alloc (.cells #[.string x.name, .int .i64 x.kind, .int .i64 x.metric, .int .i64 x.scale, .int .i64 x.cap, .int .i64 x.fleet, (.slice an L cn), (.slice am M cm)] 25)).alloc (.cells #[] 40)).ownsRow (w.heap.size + 1 + 1 + 1) 40 7 (.slice (some ⟨w.heap.size + 1 + 1 + 1, 0, none⟩) 0 0) 0 []) := by
      have h := cowns_empty (((w.alloc (.cells #[.string x.name, .int .i64 x.kind, .int .i64 x.metric, .int .i64 x.scale, .int .i64 x.cap, .int .i64 x.fleet, (.slice an L cn), (.slice am M cm)] 25)).alloc (.cells #[.string ⟨#[]⟩, .int .i64 0, .int .i64 0, .int .i64 0, .int .i64 0, .int .i64 0, .slice none 0 0, .slice none 0 0] 25)).alloc (.cells #[.string x.name, .int .i64 x.kind, .int .i64 x.metric, .int .i64 x.scale, .int .i64 x.cap, .int .i64 x.fleet, (.slice an L cn), (.slice am M cm)] 25)) 40 7
      rw [HB3.out.2.2.2.1] at h
      exact h
    have HSZ : Hid (((((w.alloc (.cells #[.string x.name, .int .i64 x.kind, .int .i64 x.metric, .int .i64 x.scale, .int .i64 x.cap, .int .i64 x.fleet, (.slice an L cn), (.slice am M cm)] 25)).alloc (.cells #[.string ⟨#[]⟩, .int .i64 0, .int .i64 0, .int .i64 0, .int .i64 0, .int .i64 0, .slice none 0 0, .slice none 0 0] 25)).alloc (.cells #[.string x.name, .int .i64 x.kind, .int .i64 x.metric, .int .i64 x.scale, .int .i64 x.cap, .int .i64 x.fleet, (.slice an L cn), (.slice am M cm)] 25)).alloc (.cells #[] 40)).heap.size = w.heap.size + 4) := by unfold Hid; rw [World.size_alloc, HB3.out.2.2.2.1]
    have HBL : Hid (Below w.heap.size w ((((w.alloc (.cells #[.string x.name, .int .i64 x.kind, .int .i64 x.metric, .int .i64 x.scale, .int .i64 x.cap, .int .i64 x.fleet, (.slice an L cn), (.slice am M cm)] 25)).alloc (.cells #[.string ⟨#[]⟩, .int .i64 0, .int .i64 0, .int .i64 0, .int .i64 0, .int .i64 0, .slice none 0 0, .slice none 0 0] 25)).alloc (.cells #[.string x.name, .int .i64 x.kind, .int .i64 x.metric, .int .i64 x.scale, .int .i64 x.cap, .int .i64 x.fleet, (.slice an L cn), (.slice am M cm)] 25)).alloc (.cells #[] 40))) := HB3.out.2.2.2.2.alloc (by rw [HB3.out.2.2.2.1]; omega) _
    have HMK : Hid (∀ (w5 : World) (v' : Value), w5.ownsRow (w.heap.size + 1 + 1 + 1) 40 7 v' L (x.nodes.flatMap ndC) → ((((w.alloc (.cells #[.string x.name, .int .i64 x.kind, .int .i64 x.metric, .int .i64 x.scale, .int .i64 x.cap, .int .i64 x.fleet, (.slice an L cn), (.slice am M cm)] 25)).alloc (.cells #[.string ⟨#[]⟩, .int .i64 0, .int .i64 0, .int .i64 0, .int .i64 0, .int .i64 0, .slice none 0 0, .slice none 0 0] 25)).alloc (.cells #[.string x.name, .int .i64 x.kind, .int .i64 x.metric, .int .i64 x.scale, .int .i64 x.cap, .int .i64 x.fleet, (.slice an L cn), (.slice am M cm)] 25)).alloc (.cells #[] 40)).grownBy w5 (some (w.heap.size + 1 + 1 + 1)) → InsBox w5 (w.heap.size + 1 + 1) x (.slice an L cn) (.slice am M cm) 25 ∧ TuS w x (.slice an L cn) (.slice am M cm) x v' L x.nodes (w5.setCell ⟨w.heap.size + 1 + 1, 6, none⟩ v')) := fun w5 v' h1 h2 => by
      have hB : Below (((w.alloc (.cells #[.string x.name, .int .i64 x.kind, .int .i64 x.metric, .int .i64 x.scale, .int .i64 x.cap, .int .i64 x.fleet, (.slice an L cn), (.slice am M cm)] 25)).alloc (.cells #[.string ⟨#[]⟩, .int .i64 0, .int .i64 0, .int .i64 0, .int .i64 0, .int .i64 0, .slice none 0 0, .slice none 0 0] 25)).alloc (.cells #[.string x.name, .int .i64 x.kind, .int .i64 x.metric, .int .i64 x.scale, .int .i64 x.cap, .int .i64 x.fleet, (.slice an L cn), (.slice am M cm)] 25)).heap.size (((w.alloc (.cells #[.string x.name, .int .i64 x.kind, .int .i64 x.metric, .int .i64 x.scale, .int .i64 x.cap, .int .i64 x.fleet, (.slice an L cn), (.slice am M cm)] 25)).alloc (.cells #[.string ⟨#[]⟩, .int .i64 0, .int .i64 0, .int .i64 0, .int .i64 0, .int .i64 0, .slice none 0 0, .slice none 0 0] 25)).alloc (.cells #[.string x.name, .int .i64 x.kind, .int .i64 x.metric, .int .i64 x.scale, .int .i64 x.cap, .int .i64 x.fleet, (.slice an L cn), (.slice am M cm)] 25)) w5 := (fbelow_box (((w.alloc (.cells #[.string x.name, .int .i64 x.kind, .int .i64 x.metric, .int .i64 x.scale, .int .i64 x.cap, .int .i64 x.fleet, (.slice an L cn), (.slice am M cm)] 25)).alloc (.cells #[.string ⟨#[]⟩, .int .i64 0, .int .i64 0, .int .i64 0, .int .i64 0, .int .i64 0, .slice none 0 0, .slice none 0 0] 25)).alloc (.cells #[.string x.name, .int .i64 x.kind, .int .i64 x.metric, .int .i64 x.scale, .int .i64 x.cap, .int .i64 x.fleet, (.slice an L cn), (.slice am M cm)] 25)) (.cells #[] 40)).grown h2 (fbelow_box _ _).size (fun k e => by (have e1 := Option.some.inj e; rw [HB3.out.2.2.2.1]; omega))
      have hs := HB3.out.2.2.2.1
      have hq : InsBox w5 (w.heap.size + 1 + 1) x (.slice an L cn) (.slice am M cm) 25 := (hB.block _ (by omega)).trans HB3.out.2.2.1
      refine ⟨hq, tuS_made ?_ ?_ hq h1 (HB3.out.2.2.2.2.trans (hB.mono (by omega)))⟩
      · exact (hB.block _ (by omega)).trans HB3.out.1
      · exact (hB.block _ (by omega)).trans HB3.out.2.1
    by_cases h0 : L = 0
    · have hn0 : x.nodes = [] := List.length_eq_zero_iff.1 (HLE.out.trans h0)
      subst h0
      have HM0 : Hid (TuS w x (.slice an 0 cn) (.slice am M cm) x (.slice (some ⟨w.heap.size + 1 + 1 + 1, 0, none⟩) 0 0) 0 x.nodes ((((w.alloc (.cells #[.string x.name, .int .i64 x.kind, .int .i64 x.metric, .int .i64 x.scale, .int .i64 x.cap, .int .i64 x.fleet, (.slice an 0 cn), (.slice am M cm)] 25)).alloc (.cells #[.string ⟨#[]⟩, .int .i64 0, .int .i64 0, .int .i64 0, .int .i64 0, .int .i64 0, .slice none 0 0, .slice none 0 0] 25)).alloc (.cells #[.string x.name, .int .i64 x.kind, .int .i64 x.metric, .int .i64 x.scale, .int .i64 x.cap, .int .i64 x.fleet, (.slice (some ⟨w.heap.size + 1 + 1 + 1, 0, none⟩) 0 0), (.slice am M cm)] 25)).alloc (.cells #[] 40))) := by
        have h := ex_three_blocks w (.cells #[.string x.name, .int .i64 x.kind, .int .i64 x.metric, .int .i64 x.scale, .int .i64 x.cap, .int .i64 x.fleet, (.slice an 0 cn), (.slice am M cm)] 25) (.cells #[.string ⟨#[]⟩, .int .i64 0, .int .i64 0, .int .i64 0, .int .i64 0, .int .i64 0, .slice none 0 0, .slice none 0 0] 25) (.cells #[.string x.name, .int .i64 x.kind, .int .i64 x.metric, .int .i64 x.scale, .int .i64 x.cap, .int .i64 x.fleet, (.slice (some ⟨w.heap.size + 1 + 1 + 1, 0, none⟩) 0 0), (.slice am M cm)] 25)
        have hb := fbelow_box (((w.alloc (.cells #[.string x.name, .int .i64 x.kind, .int .i64 x.metric, .int .i64 x.scale, .int .i64 x.cap, .int .i64 x.fleet, (.slice an 0 cn), (.slice am M cm)] 25)).alloc (.cells #[.string ⟨#[]⟩, .int .i64 0, .int .i64 0, .int .i64 0, .int .i64 0, .int .i64 0, .slice none 0 0, .slice none 0 0] 25)).alloc (.cells #[.string x.name, .int .i64 x.kind, .int .i64 x.metric, .int .i64 x.scale, .int .i64 x.cap, .int .i64 x.fleet, (.slice (some ⟨w.heap.size + 1 + 1 + 1, 0, none⟩) 0 0), (.slice am M cm)] 25)) (.cells #[] 40)
        have hs := h.2.2.2.1
        have e := cowns_empty (((w.alloc (.cells #[.string x.name, .int .i64 x.kind, .int .i64 x.metric, .int .i64 x.scale, .int .i64 x.cap, .int .i64 x.fleet, (.slice an 0 cn), (.slice am M cm)] 25)).alloc (.cells #[.string ⟨#[]⟩, .int .i64 0, .int .i64 0, .int .i64 0, .int .i64 0, .int .i64 0, .slice none 0 0, .slice none 0 0] 25)).alloc (.cells #[.string x.name, .int .i64 x.kind, .int .i64 x.metric, .int .i64 x.scale, .int .i64 x.cap, .int .i64 x.fleet, (.slice (some ⟨w.heap.size + 1 + 1 + 1, 0, none⟩) 0 0), (.slice am M cm)] 25)) 40 7
        rw [hs] at e
        exact ⟨(hb.block _ (by omega)).trans h.1, (hb.block _ (by omega)).trans h.2.1, (hb.block _ (by omega)).trans h.2.2.1, by rw [hn0]; exact e, h.2.2.2.2.trans (hb.mono (by omega))⟩
      clear HMK HB3 HNT hn0 HFL HX HRES HLE
      go_wp2_with (at_builtin; refine wpList_append_nothingE rfl _ _ 22 rfl (w.heap.size + 1 + 1 + 1) 40 i0 7 Try.underlying22 HI0.out _ _ _ rfl HOE.out an cn rfl ?_)
      go_meet
      exact ⟨_, _, HM0.out⟩
    · have hL1 : 0 < L := by omega
      obtain ⟨nb, no, rfl, hNA⟩ : ∃ nb no, an = some ⟨nb, no, none⟩ ∧ NodesAt w nb no x.nodes := by
        rcases HNT.out with h | ⟨b, off, h1, h2⟩
        · exact absurd (by rw [← HLE.out, h]; rfl) h0
        · exact ⟨b, off, h1, h2⟩
      have HWN : Hid (∀ W, Below w.heap.size w W → ∀ (j : Nat) (u : Value), (x.nodes.flatMap ndC)[j]? = some u → W.cell? ((⟨nb, no, none⟩ : Addr).add j) = some u) := fun W hW => nodes_news (hNA.below hW hNA.1)
      have hml : 0 + L ≤ maxLen := by unfold maxLen; omega
      have hml2 : (0 + L) * 56 ≤ 140737488355328 := by omega
      clear h0 hNA HNT HB3 HX HRES HLE
      go_wp2_with (at_builtin; refine wpList_append_own _ rfl _ _ 22 rfl (w.heap.size + 1 + 1 + 1) 40 i0 (.agg #[.int .i64 0, .int .i64 0, .int .i64 0, .int .i64 0, .int .i64 0, .int .i64 0, .int .i64 0]) 7 56 Try.underlying22 HI0.out hz0 hz1 hz2 rfl (by decide) _ 0 [] rfl HOE.out ⟨nb, no, none⟩ L cn (x.nodes.flatMap ndC) rfl HFL.out (HWN.out _ HBL.out) (nd_one _) hml hml2 (by rw [HSZ.out]; omega) ?_; intro v' w5 hown' hgrow _; rw [Nat.zero_add] at hown'; obtain ⟨ao, rc, rfl⟩ := owns_dat hown'; have hMK := HMK.out w5 _ hown' hgrow; have RM := Lib.hid hMK.2; have e6 := hMK.1.c 6; have f6 := hMK.1.frozenE 6; clear hMK hown' hgrow)
      go_meet
      exact ⟨_, _, RM.out⟩
  case rest =>
  obtain ⟨ao, rc, hS⟩ := hcut
  obtain ⟨W2, rfl⟩ : ∃ W, W = wc := ⟨_, rfl⟩
  have HS := Lib.hid hS
  clear hS HB3 HNT HFL
  obtain ⟨d0, d1, d2, d3, d4, d5, d6, d7⟩ := HS.out.qb.cells
  have hfq := HS.out.qb.frozenE
  go_upto_block 0 with (fail)
  go_cut [8] from 16 to 38 (fun _ wx => TuS w x (.slice an L cn) (.slice am M cm) (turnH f g x) (.slice ao L rc) L x.nodes wx)
  case first =>
    have HNO : Hid (g ≠ 1 → g ≠ 2 → g ≠ 3 → g ≠ 4 → g ≠ 6 → turnH f g x = x) := fun a b c d e => by unfold turnH; rw [if_neg a, if_neg b, if_neg c, if_neg d, if_neg e]
    by_cases h1 : g = 1
    · subst h1
      clear HNO
      have HS1 := Lib.hid (HS.out.put (z := turnH f 1 x) (j := 0) (u := .string lilim) rfl)
      clear HS
      go_wp2
      go_meet
      exact HS1.out
    by_cases h2 : g = 2
    · subst h2
      clear HNO
      have hw1 : wrap64 (f + 1) = f + 1 := by unfold wrap64; omega
      have HS1 := Lib.hid (HS.out.put (z := turnH f 2 x) (j := 1) (u := .int .i64 (f + 1)) rfl)
      clear HS
      go_wp2
      go_meet
      exact HS1.out
    by_cases h3 : g = 3
    · subst h3
      clear HNO
      by_cases hf : f = 1
      · subst hf
        have HS0 := Lib.hid (HS.out.put (z := { x with metric := 6 }) (j := 2) (u := .int .i64 6) rfl)
        have hf0 := HS0.out.qb.frozenE
        have HS1 := Lib.hid (HS0.out.put (z := turnH 1 3 x) (j := 2) (u := .int .i64 2) rfl)
        clear HS
        go_wp2
        go_meet
        exact HS1.out
      · have hf1 : (f == 1) = false := beq_eq_false_iff_ne.2 hf
        have HS1 := Lib.hid (HS.out.put (z := turnH f 3 x) (j := 2) (u := .int .i64 6) (by unfold turnH; rw [if_neg hf]; rfl))
        clear hf
        clear HS
        go_wp2
        go_meet
        exact HS1.out
    by_cases h4 : g = 4
    · subst h4
      clear HNO
      have HS1 := Lib.hid (HS.out.put (z := turnH f 4 x) (j := 3) (u := .int .i64 0) rfl)
      clear HS
      go_wp2
      go_meet
      exact HS1.out
    by_cases h6 : g = 6
    · subst h6
      clear HNO
      rcases (by omega : f = 1 ∨ f = 2 ∨ f = 3) with rfl | rfl | rfl
      · have HS1 := Lib.hid (HS.out.put (z := turnH 1 6 x) (j := 5) (u := .int .i64 0) rfl)
        clear HS
        go_wp2
        go_meet
        exact HS1.out
      · have HS1 := Lib.hid (HS.out.put (z := turnH 2 6 x) (j := 5) (u := .int .i64 1) rfl)
        clear HS
        go_wp2
        go_meet
        exact HS1.out
      · have HS1 := Lib.hid (HS.out.put (z := turnH 3 6 x) (j := 5) (u := .int .i64 1) rfl)
        clear HS
        go_wp2
        go_meet
        exact HS1.out
    have HE : Hid (TuS w x (.slice an L cn) (.slice am M cm) (turnH f g x) (.slice ao L rc) L x.nodes W2) := by unfold Hid; rw [HNO.out h1 h2 h3 h4 h6]; exact HS.out
    have k1 : (g == 1) = false := beq_eq_false_iff_ne.2 h1
    have k2 : (g == 2) = false := beq_eq_false_iff_ne.2 h2
    have k3 : (g == 3) = false := beq_eq_false_iff_ne.2 h3
    have k4 : (g == 4) = false := beq_eq_false_iff_ne.2 h4
    have k6 : (g == 6) = false := beq_eq_false_iff_ne.2 h6
    clear h1 h2 h3 h4 h6 HNO HS
    go_wp2
    go_meet
    exact HE.out
  case rest =>
  clear HS d0 d1 d2 d3 d4 d5 d6 d7 hfq
  obtain ⟨W3, rfl⟩ : ∃ W, W = wc := ⟨_, rfl⟩
  have HS3 : Hid (TuS w x (.slice an L cn) (.slice am M cm) (turnH f g x) (.slice ao L rc) L (turnN g x.nodes 0) W3) := by rw [turnN_zero]; exact hcut
  clear hcut
  go_wp2_with (fail)
  go_loopw [8] (fun i wr => ∃ k : Nat, k ≤ L ∧ i = .int .i64 (k : Int) ∧ TuS w x (.slice an L cn) (.slice am M cm) (turnH f g x) (.slice ao L rc) L (turnN g x.nodes k) wr) (fun i _ => L - (intOf i).toNat)
  case atStart => exact ⟨0, Nat.zero_le _, rfl, HS3.out⟩
  case round =>
    obtain ⟨k, hk, rfl, hS⟩ := hrel
    have HS := Lib.hid hS
    clear hS HS3
    obtain ⟨d0, d1, d2, d3, d4, d5, d6, d7⟩ := HS.out.qb.cells
    by_cases hlt : k < L
    · have hki : (k : Int) < (L : Int) := by omega
      have hL1 : 0 < L := by omega
      obtain ⟨d, hd⟩ : ∃ d, x.nodes[k]? = some d := ⟨_, List.getElem?_eq_getElem (by rw [HLE.out]; exact hlt)⟩
      obtain ⟨gb, rfl, hgb⟩ := owns_some HS.out.row hL1
      have hfro := HS.out.row.frozenAt
      have HNC : Hid (g ≠ 10 → g ≠ 11 → g ≠ 12 → g ≠ 13 → turnN g x.nodes (k + 1) = turnN g x.nodes k) := fun a b c e => by
        have hs : ∀ d : Nd, turnNd g d = d := fun d => by unfold turnNd; rw [if_neg a, if_neg b, if_neg c, if_neg e]
        rw [turnN_same hs, turnN_same hs]
      clear HX HRES hk
      by_cases c10 : g = 10
      · subst c10
        have hcel := HS.out.nd (turnN_get hd) (j := 2) (u := .int .i64 d.demand) (by decide) rfl
        have HDU : Hid (TuS w x (.slice an L cn) (.slice am M cm) (turnH f 10 x) (.slice (some ⟨gb, 0, none⟩) L rc) L (turnN 10 x.nodes (k + 1)) (wr.drew.setCell ⟨gb, k * 7 + 2, none⟩ (.int .i64 (max 0 d.demand)))) := by
          rw [← turnN_set hd]
          exact HS.out.drew.field hL1 (turnN_get hd) (by decide) rfl
        generalize d.demand = dm at *
        clear hd HNC
        go_upto_region 21 with (fail)
        have e6 : wr.drew.cell? ⟨w.heap.size + 1 + 1, 6, none⟩ = some (.slice (some ⟨gb, 0, none⟩) L rc) := d6
        have e4 : wr.drew.cell? ⟨gb, k * 7 + 2, none⟩ = some (.int .i64 dm) := hcel
        have f4 : ∀ j, wr.drew.frozen? ⟨gb, j, none⟩ = false := hfro
        refine wp_region_held_drew (S := (fun W => W.cell? ⟨w.heap.size + 1 + 1, 6, none⟩ = some (.slice (some ⟨gb, 0, none⟩) L rc))) (by kernel_rfl) e6 (fun hHeld0 => ?_)
        have HD4 := HDU.out
        clear hHeld0 d0 d1 d2 d3 d4 d5 d6 d7 hcel hfro
        generalize wr.drew = W4 at *
        refine wpAnyH_take (i := 0) (v := ?_) rfl (by kernel_rfl) (by kernel_rfl) (by kernel_rfl) (fun _ _ _ h => h) (Or.inl ⟨by kernel_rfl, ?_⟩) e6 ?_
        rotate_left
        · (intro w0 hSw; (try dsimp only at hSw); have e60 := hSw; go_simp; try with_reducible rfl)
        try dsimp only [List.getElem_toArray, List.getElem_cons_succ, List.getElem_cons_zero, Act.put]
        try simp only [List.setIfInBounds_toArray, List.set_cons_zero, List.set_cons_succ]
        refine wpAnyH_take (i := 1) (v := ?_) rfl (by kernel_rfl) (by kernel_rfl) (by kernel_rfl) (fun _ _ _ h => h) (Or.inl ⟨by kernel_rfl, ?_⟩) e6 ?_
        rotate_left
        · (intro w0 hSw; (try dsimp only at hSw); have e60 := hSw; go_simp; try with_reducible rfl)
        try dsimp only [List.getElem_toArray, List.getElem_cons_succ, List.getElem_cons_zero, Act.put]
        try simp only [List.setIfInBounds_toArray, List.set_cons_zero, List.set_cons_succ]
        refine wpAnyH_take (i := 2) (v := ?_) rfl (by kernel_rfl) (by kernel_rfl) (by kernel_rfl) (fun _ _ _ h => h) (Or.inl ⟨by kernel_rfl, ?_⟩) e6 ?_
        rotate_left
        · (intro w0 hSw; (try dsimp only at hSw); have e60 := hSw; go_simp; try with_reducible rfl)
        try dsimp only [List.getElem_toArray, List.getElem_cons_succ, List.getElem_cons_zero, Act.put]
        try simp only [List.setIfInBounds_toArray, List.set_cons_zero, List.set_cons_succ]
        refine wpAnyH_take (i := 3) (v := ?_) rfl (by kernel_rfl) (by kernel_rfl) (by kernel_rfl) (fun _ _ _ h => h) (Or.inl ⟨by kernel_rfl, ?_⟩) e6 ?_
        rotate_left
        · (intro w0 hSw; (try dsimp only at hSw); have e60 := hSw; go_simp; try with_reducible rfl)
        try dsimp only [List.getElem_toArray, List.getElem_cons_succ, List.getElem_cons_zero, Act.put]
        try simp only [List.setIfInBounds_toArray, List.set_cons_zero, List.set_cons_succ]
        refine wpAnyH_take (i := 4) (v := ?_) rfl (by kernel_rfl) (by kernel_rfl) (by kernel_rfl) (fun _ _ _ h => h) (Or.inl ⟨by kernel_rfl, ?_⟩) e6 ?_
        rotate_left
        · (intro w0 hSw; (try dsimp only at hSw); have e60 := hSw; go_simp; try with_reducible rfl)
        try dsimp only [List.getElem_toArray, List.getElem_cons_succ, List.getElem_cons_zero, Act.put]
        try simp only [List.setIfInBounds_toArray, List.set_cons_zero, List.set_cons_succ]
        refine wpAnyH_take (i := 5) (v := ?_) rfl (by kernel_rfl) (by kernel_rfl) (by kernel_rfl) (fun _ _ _ h => h) (Or.inl ⟨by kernel_rfl, ?_⟩) e6 ?_
        rotate_left
        · (intro w0 hSw; (try dsimp only at hSw); have e60 := hSw; go_simp; try with_reducible rfl)
        try dsimp only [List.getElem_toArray, List.getElem_cons_succ, List.getElem_cons_zero, Act.put]
        try simp only [List.setIfInBounds_toArray, List.set_cons_zero, List.set_cons_succ]
        refine wpAnyH_take (i := 6) (v := ?_) rfl (by kernel_rfl) (by kernel_rfl) (by kernel_rfl) (fun _ _ _ h => h) (Or.inl ⟨by kernel_rfl, ?_⟩) e6 ?_
        rotate_left
        · (intro w0 hSw; (try dsimp only at hSw); have e60 := hSw; go_simp; try with_reducible rfl)
        try dsimp only [List.getElem_toArray, List.getElem_cons_succ, List.getElem_cons_zero, Act.put]
        try simp only [List.setIfInBounds_toArray, List.set_cons_zero, List.set_cons_succ]
        refine wpAnyH_take (i := 7) (v := ?_) rfl (by kernel_rfl) (by kernel_rfl) (by kernel_rfl) (fun _ _ _ h => h) (Or.inl ⟨by kernel_rfl, ?_⟩) e6 ?_
        rotate_left
        · (intro w0 hSw; (try dsimp only at hSw); have e60 := hSw; go_simp; try with_reducible rfl)
        try dsimp only [List.getElem_toArray, List.getElem_cons_succ, List.getElem_cons_zero, Act.put]
        try simp only [List.setIfInBounds_toArray, List.set_cons_zero, List.set_cons_succ]
        refine wpAnyH_ready (rs := [8]) (by kernel_rfl) (by simp) (AllReadyH.cons rfl (fun KK hKK => ?_) AllReadyH.nil)
        go_simp
        refine hKK.out _ _ e6 (fun _ => ?_)
        clear hKK KK
        try dsimp only [List.getElem_toArray, List.getElem_cons_succ, List.getElem_cons_zero, Act.put]
        try simp only [List.setIfInBounds_toArray, List.set_cons_zero, List.set_cons_succ]
        refine wpAnyH_take (i := 9) (v := .int .i64 (max 0 dm)) rfl (by kernel_rfl) (by kernel_rfl) (by kernel_rfl) (fun _ _ _ h => h) (Or.inl ⟨by kernel_rfl, ?_⟩) e6 ?_
        · (intro w0 hSw; (try dsimp only at hSw); have e60 := hSw; go_simp <;> first | with_reducible rfl | (split <;> omega))
        try dsimp only [List.getElem_toArray, List.getElem_cons_succ, List.getElem_cons_zero, Act.put]
        try simp only [List.setIfInBounds_toArray, List.set_cons_zero, List.set_cons_succ]
        refine wpAnyH_take (i := 10) (v := ?_) rfl (by kernel_rfl) (by kernel_rfl) (by kernel_rfl) (fun _ _ _ h => h) (Or.inl ⟨by kernel_rfl, ?_⟩) e6 ?_
        rotate_left
        · (intro w0 hSw; (try dsimp only at hSw); have e60 := hSw; go_simp; try with_reducible rfl)
        try dsimp only [List.getElem_toArray, List.getElem_cons_succ, List.getElem_cons_zero, Act.put]
        try simp only [List.setIfInBounds_toArray, List.set_cons_zero, List.set_cons_succ]
        refine wpAnyH_take (i := 11) (v := ?_) rfl (by kernel_rfl) (by kernel_rfl) (by kernel_rfl) (fun _ _ _ h => h) (Or.inl ⟨by kernel_rfl, ?_⟩) e6 ?_
        rotate_left
        · (intro w0 hSw; (try dsimp only at hSw); have e60 := hSw; go_simp; try with_reducible rfl)
        try dsimp only [List.getElem_toArray, List.getElem_cons_succ, List.getElem_cons_zero, Act.put]
        try simp only [List.setIfInBounds_toArray, List.set_cons_zero, List.set_cons_succ]
        refine wpAnyH_ready (rs := [12]) (by kernel_rfl) (by simp) (AllReadyH.cons rfl (fun KK hKK => ?_) AllReadyH.nil)
        go_simp
        have e6x := (HD4.qb).c 6
        refine hKK.out _ _ e6x (fun _ => ?_)
        clear hKK KK
        refine wpAnyH_done (by kernel_rfl) ?_ _
        try dsimp only [List.getElem_toArray, List.getElem_cons_succ, List.getElem_cons_zero, Act.put]
        try simp only [List.setIfInBounds_toArray, List.set_cons_zero, List.set_cons_succ]
        clear HDU e6x e6 e4 f4 HS
        generalize W4.setCell ⟨gb, k * 7 + 2, none⟩ (.int .i64 (max 0 dm)) = W6 at *
        go_wp2
        go_roundw
        case rel => exact ⟨k + 1, by omega, by go_num, HD4⟩
        case measure => simp [intOf]; omega
      by_cases c11 : g = 11
      · subst c11
        have HD0 := Lib.hid (HS.out.field hL1 (turnN_get hd) (j := 3) (u := .int .i64 0) (d' := { d with ready := 0 }) (by decide) rfl)
        have hk2 : (turnN 11 x.nodes k).length = L := by rw [turnN_len _ _ (by rw [HLE.out]; omega), HLE.out]
        have hd2 : ((turnN 11 x.nodes k).set k { d with ready := 0 })[k]? = some { d with ready := 0 } := by rw [List.getElem?_set_self (by omega)]
        have z6 : (wr.setCell ⟨gb, k * 7 + 3, none⟩ (.int .i64 0)).cell? ⟨w.heap.size + 1 + 1, 6, none⟩ = some (.slice (some ⟨gb, 0, none⟩) L rc) := HD0.out.qb.c 6
        have hf0 := HD0.out.row.frozenAt
        have HDU : Hid (TuS w x (.slice an L cn) (.slice am M cm) (turnH f 11 x) (.slice (some ⟨gb, 0, none⟩) L rc) L (turnN 11 x.nodes (k + 1)) ((wr.setCell ⟨gb, k * 7 + 3, none⟩ (.int .i64 0)).setCell ⟨gb, k * 7 + 4, none⟩ (.int .i64 0))) := by
          have h := HD0.out.field hL1 hd2 (j := 4) (u := .int .i64 0) (d' := turnNd 11 d) (by decide) rfl
          rw [List.set_set, turnN_set hd] at h
          exact h
        have hcel := HS.out.nd (turnN_get hd) (j := 3) (u := .int .i64 d.ready) (by decide) rfl
        have hcel4 : (wr.setCell ⟨gb, k * 7 + 3, none⟩ (.int .i64 0)).cell? ⟨gb, k * 7 + 4, none⟩ = some (.int .i64 d.due) := HD0.out.nd hd2 (j := 4) (u := .int .i64 d.due) (by decide) rfl
        clear HS HD0 hd2 hk2 HNC
        generalize d.ready = dr at *
        generalize d.due = dm at *
        clear hd
        go_wp2
        go_roundw
        case rel => exact ⟨k + 1, by omega, by go_num, HDU.out⟩
        case measure => simp [intOf]; omega
      by_cases c12 : g = 12
      · subst c12
        have HDU : Hid (TuS w x (.slice an L cn) (.slice am M cm) (turnH f 12 x) (.slice (some ⟨gb, 0, none⟩) L rc) L (turnN 12 x.nodes (k + 1)) (wr.setCell ⟨gb, k * 7 + 5, none⟩ (.int .i64 0))) := by
          rw [← turnN_set hd]
          exact HS.out.field hL1 (turnN_get hd) (by decide) rfl
        have hcel := HS.out.nd (turnN_get hd) (j := 5) (u := .int .i64 d.service) (by decide) rfl
        generalize d.service = dm at *
        clear HS hd HNC
        go_wp2
        go_roundw
        case rel => exact ⟨k + 1, by omega, by go_num, HDU.out⟩
        case measure => simp [intOf]; omega
      by_cases c13 : g = 13
      · subst c13
        have HDU : Hid (TuS w x (.slice an L cn) (.slice am M cm) (turnH f 13 x) (.slice (some ⟨gb, 0, none⟩) L rc) L (turnN 13 x.nodes (k + 1)) (wr.setCell ⟨gb, k * 7 + 6, none⟩ (.int .i64 0))) := by
          rw [← turnN_set hd]
          exact HS.out.field hL1 (turnN_get hd) (by decide) rfl
        have hcel := HS.out.nd (turnN_get hd) (j := 6) (u := .int .i64 d.mate) (by decide) rfl
        generalize d.mate = dm at *
        clear HS hd HNC
        go_wp2
        go_roundw
        case rel => exact ⟨k + 1, by omega, by go_num, HDU.out⟩
        case measure => simp [intOf]; omega
      have HDU : Hid (TuS w x (.slice an L cn) (.slice am M cm) (turnH f g x) (.slice (some ⟨gb, 0, none⟩) L rc) L (turnN g x.nodes (k + 1)) wr) := by unfold Hid; rw [HNC.out c10 c11 c12 c13]; exact HS.out
      have k1 : (g == 10) = false := beq_eq_false_iff_ne.2 c10
      have k2 : (g == 11) = false := beq_eq_false_iff_ne.2 c11
      have k3 : (g == 12) = false := beq_eq_false_iff_ne.2 c12
      have k4 : (g == 13) = false := beq_eq_false_iff_ne.2 c13
      clear HS hd HNC c10 c11 c12 c13
      go_wp2
      go_roundw
      case rel => exact ⟨k + 1, by omega, by go_num, HDU.out⟩
      case measure => simp [intOf]; omega
    · obtain rfl : k = L := by omega
      have hq := HS.out.qb
      have hr := HS.out.rb
      have y0 := hq.c 0
      have y1 := hq.c 1
      have y2 := hq.c 2
      have y3 := hq.c 3
      have y4 := hq.c 4
      have y5 := hq.c 5
      have y6 := hq.c 6
      have y7 := hq.c 7
      have r0 : wr.cell? ⟨w.heap.size + 1, 0, none⟩ = some (.string ⟨#[]⟩) := by unfold World.cell?; rw [hr]; rfl
      have f0 : wr.frozen? ⟨w.heap.size + 1, 0, none⟩ = false := by unfold World.frozen?; rw [hr]; rfl
      have r1 : wr.cell? ⟨w.heap.size + 1, 1, none⟩ = some (.int .i64 0) := by unfold World.cell?; rw [hr]; rfl
      have f1 : wr.frozen? ⟨w.heap.size + 1, 1, none⟩ = false := by unfold World.frozen?; rw [hr]; rfl
      have r2 : wr.cell? ⟨w.heap.size + 1, 2, none⟩ = some (.int .i64 0) := by unfold World.cell?; rw [hr]; rfl
      have f2 : wr.frozen? ⟨w.heap.size + 1, 2, none⟩ = false := by unfold World.frozen?; rw [hr]; rfl
      have r3 : wr.cell? ⟨w.heap.size + 1, 3, none⟩ = some (.int .i64 0) := by unfold World.cell?; rw [hr]; rfl
      have f3 : wr.frozen? ⟨w.heap.size + 1, 3, none⟩ = false := by unfold World.frozen?; rw [hr]; rfl
      have r4 : wr.cell? ⟨w.heap.size + 1, 4, none⟩ = some (.int .i64 0) := by unfold World.cell?; rw [hr]; rfl
      have f4 : wr.frozen? ⟨w.heap.size + 1, 4, none⟩ = false := by unfold World.frozen?; rw [hr]; rfl
      have r5 : wr.cell? ⟨w.heap.size + 1, 5, none⟩ = some (.int .i64 0) := by unfold World.cell?; rw [hr]; rfl
      have f5 : wr.frozen? ⟨w.heap.size + 1, 5, none⟩ = false := by unfold World.frozen?; rw [hr]; rfl
      have r6 : wr.cell? ⟨w.heap.size + 1, 6, none⟩ = some (.slice none 0 0) := by unfold World.cell?; rw [hr]; rfl
      have f6 : wr.frozen? ⟨w.heap.size + 1, 6, none⟩ = false := by unfold World.frozen?; rw [hr]; rfl
      have r7 : wr.cell? ⟨w.heap.size + 1, 7, none⟩ = some (.slice none 0 0) := by unfold World.cell?; rw [hr]; rfl
      have f7 : wr.frozen? ⟨w.heap.size + 1, 7, none⟩ = false := by unfold World.frozen?; rw [hr]; rfl
      have HRN : Hid (∀ W, W.ownsRow (w.heap.size + 1 + 1 + 1) 40 7 (.slice ao k rc) k ((turnN g x.nodes k).flatMap ndC) → Below w.heap.size w W → HasIns W (.slice ao k rc) (.slice am M cm) (turn f g x)) := fun W h1 h2 => by
        refine ⟨?_, HX.out.matrix.next h2⟩
        rw [show turnN g x.nodes k = (turn f g x).nodes by rw [← HLE.out]; exact turnN_all g x.nodes] at h1
        have e : k = (turn f g x).nodes.length := by show _ = (x.nodes.map _).length; rw [List.length_map, HLE.out]
        rw [e] at h1 ⊢
        exact nodes_of_owns h1
      have HROW := Lib.hid HS.out.row
      have HBW := Lib.hid HS.out.below
      clear HS d0 d1 d2 d3 d4 d5 d6 d7 hq hr hlt HX
      go_wp2
      refine bodyPost_ret (v := .agg #[.string (turnH f g x).name, .int .i64 (turnH f g x).kind, .int .i64 (turnH f g x).metric, .int .i64 (turnH f g x).scale, .int .i64 (turnH f g x).cap, .int .i64 (turnH f g x).fleet, (.slice ao k rc), (.slice am M cm)]) (by simp [results, Try.results15, go_sem, r0, r1, r2, r3, r4, r5, r6, r7]) rfl ⟨_, rfl, HRN.out _ (its_ret HROW.out (by show w.heap.size + 1 < _; omega) _ _ _ _ _ _ _ _) ?_, ?_⟩
      all_goals exact ((((((((HBW.out.setCell (by simp) _).setCell (by simp) _).setCell (by simp) _).setCell (by simp) _).setCell (by simp) _).setCell (by simp) _).setCell (by simp) _).setCell (by simp) _)
end Go.Proofs
