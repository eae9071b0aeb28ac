/- The law's its: an instance as the references have it. Conditions: a million nodes at most. -/
import Derived.Test.YtogpnkahgkidpaaCanonSame
import Derived.Deep.AppendLies
import Derived.Deep.RegionLaw
import Derived.RangeFuncBox
namespace Go
open Go.RowKit
/-- append onto a row of the call's own (or onto nothing), as a step of a region that draws. -/
theorem step_append_any {P : Program} {w : World} {ops : Array Oper} {o : Oper} {a : Act} {K : Act → World → Prop} {Q : Exit → Act → World → Prop} {E : Prop} (hgd : o.guard = none) (s x : Operand) (t : TypeId)
    (ho : o.op = .call { callee := .builtin .append, args := #[s, x], argTypes := #[t, t] })
    (base : Nat) (e : TypeId) (i : TypeInfo) (z : Value) (size bytes : Nat) (ht : P.underlying t = some (.slice e)) (hi : P.info? e = some i) (hz : i.zero = some z)
    (hsize : i.size = size) (hby : i.bytes = bytes) (hzs : z.cells.size = size) (hsz : 0 < size)
    (v : Value) (n : Nat) (xs : List Value) (hs : a.eval s = v) (hown : w.ownsRow base e size v n xs)
    (ad : Addr) (m c : Nat) (news : List Value) (hx : a.eval x = .slice (some ad) m c) (hl : news.length = m * size) (hnews : ∀ j u, news[j]? = some u → w.cell? (ad.add j) = some u) (h1 : ∀ u ∈ news, u.oneCell' = true)
    (h63 : n + m ≤ maxLen) (hbytes : (n + m) * bytes ≤ 140737488355328) (hbase : base ≤ w.heap.size)
    (h : ∀ v' w', w'.ownsRow base e size v' (n + m) (xs ++ news) → w.grownBy w' v.ownBlock → K (a.put o.dst v') w') :
    if Region.wanted o (yielded ops a.tmps) = true then Oper.wp P o a w K Q else E := by
  have hw : Region.wanted o (yielded ops a.tmps) = true := by simp [Region.wanted, hgd]
  rw [if_pos hw]
  exact wp_append_own w s x t ho base e i z size bytes ht hi hz hsize hby hzs hsz v n xs hs hown ad m c news hx hl hnews h1 h63 hbytes hbase fun v' w' h2 h3 _ => h v' w' h2 h3
end Go
namespace Go.Proofs
open Go.RowKit Go.Shelf Go.Canon
attribute [local go_sem] Oper.semAt_some

theorem Try.info58 : (Try.prog.info? 58).map (fun i => (i.zero, i.size, i.bytes)) = some (some (.agg #[.int .i64 0, .int .i64 0, .int .i64 0, .int .i64 0, .int .i64 0, .int .i64 0, .int .i64 0]), 7, 56) := by kernel_rfl
theorem cbelow_drew {B : Nat} {a w : World} (h : Below B a w) : Below B a w.drew := ⟨h.os, h.tape, h.output, h.size, h.block⟩
theorem cowns_drew {W : World} {base : Nat} {e : TypeId} {size : Nat} {v : Value} {c : Nat} {xs : List Value} (h : W.ownsRow base e size v c xs) : W.drew.ownsRow base e size v c xs := h
theorem cells_arr (W : World) (cs : Array Value) (t : TypeId) : ∀ (j : Nat) (u : Value), cs.toList[j]? = some u → (W.alloc (.cells cs t)).cell? ((⟨W.heap.size, 0, none⟩ : Addr).add j) = some u := by
  intro j u h
  rw [Addr.add_lit, Nat.zero_add, cell_new]
  simpa using h
/-- What stands in the middle of its: the boxes, and the nodes so far. -/
structure ItsS (w : World) (x : Ins) (vn vm : Value) (W : World) (v : Value) (l : List Nd) : Prop where
  row : W.ownsRow (w.heap.size + 3) 58 7 v l.length (l.flatMap ndC)
  p6 : W.cell? ⟨w.heap.size, 6, none⟩ = some vn
  rb : W.heap[w.heap.size + 1]? = some (.cells #[.string ⟨#[]⟩, .int .i64 0, .int .i64 0, .int .i64 0, .int .i64 0, .int .i64 0, .slice none 0 0, .slice none 0 0] 36)
  yb : W.heap[w.heap.size + 2]? = some (.cells #[.string x.name, .int .i64 x.kind, .int .i64 x.metric, .int .i64 x.scale, .int .i64 x.cap, .int .i64 x.fleet, v, vm] 36)
  sz : w.heap.size + 3 ≤ W.heap.size
  below : Below w.heap.size w W
theorem its_start (w : World) (x : Ins) (vn vm : Value) (t : TypeId) : ItsS w x vn vm (((w.alloc (.cells #[.string x.name, .int .i64 x.kind, .int .i64 x.metric, .int .i64 x.scale, .int .i64 x.cap, .int .i64 x.fleet, vn, vm] t)).alloc (.cells #[.string ⟨#[]⟩, .int .i64 0, .int .i64 0, .int .i64 0, .int .i64 0, .int .i64 0, .slice none 0 0, .slice none 0 0] 36)).alloc (.cells #[.string x.name, .int .i64 x.kind, .int .i64 x.metric, .int .i64 x.scale, .int .i64 x.cap, .int .i64 x.fleet, .slice none 0 0, vm] 36)) (.slice none 0 0) [] := by
  generalize hA : Obj.cells #[.string x.name, .int .i64 x.kind, .int .i64 x.metric, .int .i64 x.scale, .int .i64 x.cap, .int .i64 x.fleet, vn, vm] t = A
  generalize hB : Obj.cells #[Value.string ⟨#[]⟩, .int .i64 0, .int .i64 0, .int .i64 0, .int .i64 0, .int .i64 0, .slice none 0 0, .slice none 0 0] 36 = B
  generalize hC : Obj.cells #[Value.string x.name, .int .i64 x.kind, .int .i64 x.metric, .int .i64 x.scale, .int .i64 x.cap, .int .i64 x.fleet, .slice none 0 0, vm] 36 = C
  have s1 : (w.alloc A).heap.size = w.heap.size + 1 := by show (w.heap.push _).size = _; simp
  have s2 : ((w.alloc A).alloc B).heap.size = w.heap.size + 2 := by show (Array.push _ _).size = _; rw [Array.size_push, s1]
  have s3 : (((w.alloc A).alloc B).alloc C).heap.size = w.heap.size + 3 := by show (Array.push _ _).size = _; rw [Array.size_push, s2]
  have B3 : Below ((w.alloc A).alloc B).heap.size ((w.alloc A).alloc B) (((w.alloc A).alloc B).alloc C) := below_box _ _
  have B2 : Below (w.alloc A).heap.size (w.alloc A) (((w.alloc A).alloc B).alloc C) := below_two _ _ _
  refine ⟨World.ownsRow_nil _ _ _ _, ?_, ?_, ?_, by rw [s3]; exact Nat.le_refl _, (below_two w A B).alloc (by rw [s2]; omega) C⟩
  · have h := cell_new w #[.string x.name, .int .i64 x.kind, .int .i64 x.metric, .int .i64 x.scale, .int .i64 x.cap, .int .i64 x.fleet, vn, vm] t 6
    rw [hA] at h
    exact (B2.cell (p := ⟨w.heap.size, 6, none⟩) (by rw [s1]; exact Nat.lt_succ_self _)).trans h
  · have h := World.alloc_heap_new (w.alloc A) B
    rw [s1] at h
    rw [B3.block (w.heap.size + 1) (by rw [s2]; omega), h, hB]
  · have h := World.alloc_heap_new ((w.alloc A).alloc B) C
    rw [s2] at h
    rw [h, hC]
theorem ItsS.y {w W : World} {x : Ins} {vn vm v : Value} {l : List Nd} (h : ItsS w x vn vm W v l) (j : Nat) : W.cell? ⟨w.heap.size + 2, j, none⟩ = (#[Value.string x.name, .int .i64 x.kind, .int .i64 x.metric, .int .i64 x.scale, .int .i64 x.cap, .int .i64 x.fleet, v, vm] : Array Value)[j]? := by
  unfold World.cell?; rw [h.yb]; rfl
theorem ItsS.keep {w W W' W1 : World} {x : Ins} {vn vm v : Value} {l : List Nd} (h : ItsS w x vn vm W v l) (hb : Below W.heap.size W W') (hgrow : W'.grownBy W1 v.ownBlock) : ∀ k, k < w.heap.size + 3 → W1.heap[k]? = W.heap[k]? := by
  intro k hk
  have hs := h.sz
  rw [hgrow.block k (Nat.lt_of_lt_of_le (by omega) hb.size) (fun e => by have := (h.row.lt k e.symm).1; omega), hb.block k (by omega)]
theorem ItsS.add {w W W' W1 : World} {x : Ins} {vn vm v v' : Value} {l : List Nd} {d : Nd} (h : ItsS w x vn vm W v l) (hown' : W1.ownsRow (w.heap.size + 3) 58 7 v' (l.length + 1) (l.flatMap ndC ++ ndC d)) (hb : Below W.heap.size W W') (hgrow : W'.grownBy W1 v.ownBlock) : ItsS w x vn vm (W1.setCell ⟨w.heap.size + 2, 6, none⟩ v') v' (l ++ [d]) := by
  have hk := h.keep hb hgrow
  have hs := h.sz
  have hss : (W1.setCell ⟨w.heap.size + 2, 6, none⟩ v').heap.size = W1.heap.size := by simp [World.setCell]
  have h1s : W.heap.size ≤ W1.heap.size := Nat.le_trans hb.size hgrow.size
  have hset : ∀ k, k ≠ w.heap.size + 2 → (W1.setCell ⟨w.heap.size + 2, 6, none⟩ v').heap[k]? = W1.heap[k]? := fun k hk => Below.heap_setCell _ _ _ _ hk
  refine ⟨?_, ?_, ?_, ?_, by omega, ?_⟩
  · rw [flat_snoc, List.length_append]
    exact hown'.kept (row := some (w.heap.size + 2)) ⟨rfl, rfl, rfl, by omega, fun k _ hk => hset k (fun e => hk (by rw [e]))⟩ (.inr fun e => by have := (hown'.lt _ e).1; omega)
  · exact (World.cell?_of_block (a := ⟨w.heap.size, 6, none⟩) ((hset _ (by simp)).trans (hk _ (by simp)))).trans h.p6
  · exact ((hset _ (by omega)).trans (hk _ (by omega))).trans h.rb
  · have e : W1.heap[w.heap.size + 2]? = _ := (hk _ (by omega)).trans h.yb
    simp [World.setCell, Array.getElem?_modify, e]
  · exact ⟨hgrow.os.trans (hb.os.trans h.below.os), hgrow.tape.trans (hb.tape.trans h.below.tape), hgrow.output.trans (hb.output.trans h.below.output), by have := h.below.size; omega, fun k hk' => (hset k (by omega)).trans ((hk k (by omega)).trans (h.below.block k hk'))⟩
theorem owns_set {W : World} {base : Nat} {e : TypeId} {size : Nat} {v : Value} {k : Nat} {xs : List Value} (h : W.ownsRow base e size v k xs) {a : Addr} (ha : a.block < base) (u : Value) : (W.setCell a u).ownsRow base e size v k xs :=
  h.kept (row := some a.block) ⟨rfl, rfl, rfl, by simp [World.setCell], fun k _ hk => Below.heap_setCell _ _ _ _ (fun e => hk (by rw [e]))⟩ (.inr fun e => by have := (h.lt _ e).1; omega)
theorem its_ret {W : World} {base g : Nat} {e : TypeId} {size : Nat} {v : Value} {k : Nat} {xs : List Value} (h : W.ownsRow base e size v k xs) (hg : g < base) (u0 u1 u2 u3 u4 u5 u6 u7 : Value) : ((((((((W.setCell ⟨g, 0, none⟩ u0).setCell ⟨g, 1, none⟩ u1).setCell ⟨g, 2, none⟩ u2).setCell ⟨g, 3, none⟩ u3).setCell ⟨g, 4, none⟩ u4).setCell ⟨g, 5, none⟩ u5).setCell ⟨g, 6, none⟩ u6).setCell ⟨g, 7, none⟩ u7).ownsRow base e size v k xs :=
  owns_set (owns_set (owns_set (owns_set (owns_set (owns_set (owns_set (owns_set h hg _) hg _) hg _) hg _) hg _) hg _) hg _) hg _
set_option maxRecDepth 100000 in
set_option maxHeartbeats 2000000 in
theorem Try.lits_calls (x : Ins) (vn vm : Value) (w : World) (hx : HasIns w vn vm x) (h1 : x.nodes.length ≤ 1000000) :
    Calls Try.prog 15 #[insV x vn vm] w fun e w' => ∃ v', e = .returned (insV x v' vm) ∧ w'.ownsRow (w.heap.size + 3) 58 7 v' x.nodes.length (x.nodes.flatMap ndC) ∧ Below w.heap.size w w' := by
  obtain ⟨i0, hi, hz0, hz1, hz2⟩ := info_parts Try.info58
  have HI := Lib.hid hi
  obtain ⟨an, cn, rfl, hn⟩ := hx.nodes.dat
  obtain ⟨am, cm, rfl, _⟩ := hx.matrix.dat
  unfold insV
  clear hi hx
  go_enter Try.func15, Try.ntmps15
  go_wp2
  go_loopw [4] (fun i wr => ∃ (k : Nat) (v : Value), k ≤ x.nodes.length ∧ i = .int .i64 (k : Int) ∧ ItsS w x (.slice an x.nodes.length cn) (.slice am x.matrix.length cm) wr v (x.nodes.take k)) (fun i _ => x.nodes.length - (intOf i).toNat)
  case atStart => exact ⟨0, _, Nat.zero_le _, rfl, its_start _ _ _ _ _⟩
  case round =>
    obtain ⟨k, v, hk, rfl, hS⟩ := hrel
    have HS := Lib.hid hS
    have p6 := hS.p6
    have row := hS.row
    have sz := hS.sz
    by_cases hlt : k < x.nodes.length
    · obtain ⟨d, hd⟩ : ∃ d, x.nodes[k]? = some d := ⟨_, List.getElem?_eq_getElem hlt⟩
      rcases hn with h0 | ⟨b, off, rfl, hN⟩
      · rw [h0] at hlt; simp at hlt
      have hki : (k : Int) < (x.nodes.length : Int) := by omega
      obtain ⟨x0, x1, x2, x3, x4, x5, x6⟩ := (hN.2 k d hd).below hS.below hN.1
      have y6 : wr.cell? ⟨w.heap.size + 2, 6, none⟩ = some v := hS.y 6
      have f6 : wr.frozen? ⟨w.heap.size + 2, 6, none⟩ = false := by unfold World.frozen?; rw [hS.yb]; rfl
      have ya : ∀ o, (wr.alloc o).cell? ⟨w.heap.size + 2, 6, none⟩ = some v := fun o => ((below_box wr o).cell (p := ⟨w.heap.size + 2, 6, none⟩) (by show w.heap.size + 2 < _; omega)).trans y6
      have yb : ∀ o, (wr.alloc o).cell? ⟨w.heap.size + 1 + 1, 6, none⟩ = some v := ya
      have HT := Lib.hid (ctake_get hd)
      have hlen : (x.nodes.take k).length = k := by rw [List.length_take]; omega
      rw [hlen] at row
      have HLN := Lib.hid hlen
      have hml : k + 1 ≤ maxLen := by unfold maxLen; omega
      have hml2 : (k + 1) * 56 ≤ 140737488355328 := by omega
      have HK : Hid (∀ W' W1, Below wr.heap.size wr W' → W'.grownBy W1 v.ownBlock → W1.cell? ⟨w.heap.size + 2, 6, none⟩ = some v ∧ W1.frozen? ⟨w.heap.size + 2, 6, none⟩ = false) := fun W' W1 h1 h2 => by
        have e := (hS.keep h1 h2) (w.heap.size + 2) (by omega)
        exact ⟨(World.cell?_of_block (a := ⟨w.heap.size + 2, 6, none⟩) e).trans y6, (World.frozen?_of_block (a := ⟨w.heap.size + 2, 6, none⟩) e).trans f6⟩
      clear hS hd hlen hN
      go_wp2
      go_region_law (first
        | (refine step_append_any rfl (.tmp 28) (.tmp 34) 34 rfl (w.heap.size + 3) 58 i0 (.agg #[.int .i64 0, .int .i64 0, .int .i64 0, .int .i64 0, .int .i64 0, .int .i64 0, .int .i64 0]) 7 56 Try.underlying34 HI.out hz0 hz1 hz2 rfl (by decide) v k ((x.nodes.take k).flatMap ndC) rfl (by repeat first | exact row | (with_reducible refine cowns_drew ?_) | (with_reducible refine World.ownsRow.alloc ?_ _)) ⟨wr.heap.size, 0, none⟩ 1 1 (ndC d) rfl rfl (fun j u h => cells_arr _ _ _ j u h) (by simp [Value.oneCell', ndC]) hml hml2 (by simp; omega) ?_; intro v' w1 hown' hgrow; have HH := HK.out _ _ (by repeat first | exact Below.refl _ _ | (with_reducible refine cbelow_drew ?_) | (with_reducible refine Below.alloc ?_ (Nat.le_refl _) _)) hgrow; have HA := Lib.hid (HS.out.add (by rw [HLN.out]; exact hown') (by repeat first | exact Below.refl _ _ | (with_reducible refine cbelow_drew ?_) | (with_reducible refine Below.alloc ?_ (Nat.le_refl _) _)) hgrow); obtain ⟨y6', f6'⟩ := HH; obtain ⟨g', cap', rfl⟩ := ownsRow_succ hown'; clear hown' hgrow))
      all_goals (go_wp2; go_roundw; (case rel => exact ⟨k + 1, _, by omega, by go_num, by rw [HT.out]; exact HA.out⟩); (case measure => simp [intOf]; omega))
    · obtain rfl : k = x.nodes.length := by omega
      rw [List.take_length] at row
      have hB := hS.below
      have rb := hS.rb
      have y0 : wr.cell? ⟨w.heap.size + 2, 0, none⟩ = some (.string x.name) := hS.y 0
      have r0 : wr.cell? ⟨w.heap.size + 1, 0, none⟩ = some (.string ⟨#[]⟩) := by unfold World.cell?; rw [rb]; rfl
      have f0 : wr.frozen? ⟨w.heap.size + 1, 0, none⟩ = false := by unfold World.frozen?; rw [rb]; rfl
      have y1 : wr.cell? ⟨w.heap.size + 2, 1, none⟩ = some (.int .i64 x.kind) := hS.y 1
      have r1 : wr.cell? ⟨w.heap.size + 1, 1, none⟩ = some (.int .i64 0) := by unfold World.cell?; rw [rb]; rfl
      have f1 : wr.frozen? ⟨w.heap.size + 1, 1, none⟩ = false := by unfold World.frozen?; rw [rb]; rfl
      have y2 : wr.cell? ⟨w.heap.size + 2, 2, none⟩ = some (.int .i64 x.metric) := hS.y 2
      have r2 : wr.cell? ⟨w.heap.size + 1, 2, none⟩ = some (.int .i64 0) := by unfold World.cell?; rw [rb]; rfl
      have f2 : wr.frozen? ⟨w.heap.size + 1, 2, none⟩ = false := by unfold World.frozen?; rw [rb]; rfl
      have y3 : wr.cell? ⟨w.heap.size + 2, 3, none⟩ = some (.int .i64 x.scale) := hS.y 3
      have r3 : wr.cell? ⟨w.heap.size + 1, 3, none⟩ = some (.int .i64 0) := by unfold World.cell?; rw [rb]; rfl
      have f3 : wr.frozen? ⟨w.heap.size + 1, 3, none⟩ = false := by unfold World.frozen?; rw [rb]; rfl
      have y4 : wr.cell? ⟨w.heap.size + 2, 4, none⟩ = some (.int .i64 x.cap) := hS.y 4
      have r4 : wr.cell? ⟨w.heap.size + 1, 4, none⟩ = some (.int .i64 0) := by unfold World.cell?; rw [rb]; rfl
      have f4 : wr.frozen? ⟨w.heap.size + 1, 4, none⟩ = false := by unfold World.frozen?; rw [rb]; rfl
      have y5 : wr.cell? ⟨w.heap.size + 2, 5, none⟩ = some (.int .i64 x.fleet) := hS.y 5
      have r5 : wr.cell? ⟨w.heap.size + 1, 5, none⟩ = some (.int .i64 0) := by unfold World.cell?; rw [rb]; rfl
      have f5 : wr.frozen? ⟨w.heap.size + 1, 5, none⟩ = false := by unfold World.frozen?; rw [rb]; rfl
      have y6 : wr.cell? ⟨w.heap.size + 2, 6, none⟩ = some (v) := hS.y 6
      have r6 : wr.cell? ⟨w.heap.size + 1, 6, none⟩ = some (.slice none 0 0) := by unfold World.cell?; rw [rb]; rfl
      have f6 : wr.frozen? ⟨w.heap.size + 1, 6, none⟩ = false := by unfold World.frozen?; rw [rb]; rfl
      have y7 : wr.cell? ⟨w.heap.size + 2, 7, none⟩ = some (.slice am x.matrix.length cm) := hS.y 7
      have r7 : wr.cell? ⟨w.heap.size + 1, 7, none⟩ = some (.slice none 0 0) := by unfold World.cell?; rw [rb]; rfl
      have f7 : wr.frozen? ⟨w.heap.size + 1, 7, none⟩ = false := by unfold World.frozen?; rw [rb]; rfl
      have HR := Lib.hid row
      have HB := Lib.hid hB
      clear hS rb row hB HS hlt hn
      obtain ⟨ao, vn, vc, rfl⟩ : ∃ ao n c, v = .slice ao n c := by
        rcases HR.out.2 with ⟨rfl, _⟩ | ⟨g, cap, cur, rfl, _⟩
        · exact ⟨_, _, _, rfl⟩
        · exact ⟨_, _, _, rfl⟩
      go_wp2
      refine bodyPost_ret (v := .agg #[.string x.name, .int .i64 x.kind, .int .i64 x.metric, .int .i64 x.scale, .int .i64 x.cap, .int .i64 x.fleet, .slice ao vn vc, .slice am x.matrix.length cm]) (by simp [results, Try.results15, go_sem, r0, r1, r2, r3, r4, r5, r6, r7]) rfl ⟨_, rfl, its_ret HR.out (by show w.heap.size + 1 < _; omega) _ _ _ _ _ _ _ _, ?_⟩
      exact ((((((((HB.out.setCell (by simp) _).setCell (by simp) _).setCell (by simp) _).setCell (by simp) _).setCell (by simp) _).setCell (by simp) _).setCell (by simp) _).setCell (by simp) _)
end Go.Proofs
