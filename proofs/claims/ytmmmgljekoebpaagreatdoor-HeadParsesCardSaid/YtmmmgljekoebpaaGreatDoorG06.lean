/- The document's own Parse of layer 14, walked. Conditions: a text of at most a million bytes. -/
import Derived.Test.YtmmmgljekoebpaaGreatDoorG05
namespace Go
open Go.RowKit
theorem pair_own_h {W : World} {B : Nat} {x0 x1 v0 v1 : Value} {t : TypeId} (h : W.heap[B]? = some (.cells #[x0, x1] t)) : ((W.setCell ⟨B, 0, none⟩ v0).setCell ⟨B, 1, none⟩ v1).heap[B]? = some (.cells #[v0, v1] t) := by
  simp [World.setCell, Array.getElem?_modify, h]
theorem below_one_h (w : World) (o : Obj) : Below w.heap.size w (w.alloc o) := (Below.refl _ w).alloc (Nat.le_refl _) _
end Go
namespace Go.Hdr
open Go.Wds Go.Proofs Go.Cur Go.Fx Go.Metric Go.Layout
/-- What is told at last. -/
def PE : (Nat × Int) ⊕ (Pr × Nat) → Hd × Nat × Nat × Int
  | .inl (a, c) => (hd0, 0, a, c)
  | .inr (p, e) => if lackE p = true then (hd0, 0, e, 142) else (p.h, e, 0, 0)
theorem parseE_PE (s : ByteArray) : parseE s = PE (rowsE14 s ((rowsOf s.data.toList).drop 0) pr0) := by
  unfold parseE
  rw [List.drop_zero]
  cases rowsE14 s (rowsOf s.data.toList) pr0 <;> rfl
theorem PE_nil (s : ByteArray) (p : Pr) : PE (rowsE14 s [] p) = PE (.inr (p, s.size)) := rfl
theorem PE_stop {s : ByteArray} {r : Nat × Nat × Nat} {l : List (Nat × Nat × Nat)} {p : Pr} (h : rowE s p r = .stop) : PE (rowsE14 s (r :: l) p) = PE (.inr (p, r.1)) := by rw [rowsE14_cons, h]
theorem PE_bad {s : ByteArray} {r : Nat × Nat × Nat} {l : List (Nat × Nat × Nat)} {p : Pr} {a : Nat} {c : Int} (h : rowE s p r = .bad a c) : PE (rowsE14 s (r :: l) p) = (hd0, 0, a, c) := by rw [rowsE14_cons, h]; rfl
theorem PE_go {s : ByteArray} {r : Nat × Nat × Nat} {l : List (Nat × Nat × Nat)} {p q : Pr} (h : rowE s p r = .go q) : PE (rowsE14 s (r :: l) p) = PE (rowsE14 s l q) := by rw [rowsE14_cons, h]
/-- What a row does, by its key and its value. -/
def rowQ (s : ByteArray) (p : Pr) (a : Nat) (q : ByteArray × (Nat × Nat) × Bool) : Rs :=
  if endB q.1 = true then .stop
  else if q.2.2 = false then .bad a 3
  else if skipB q.1 = true then .go p
  else if hplaceE q.1 < 0 ∨ p.c (hplaceE q.1).toNat = true then .bad a 140
  else if (putE p.h (hplaceE q.1) (textI s q.2.1.1 q.2.1.2)).2 = false then .bad q.2.1.1 141
  else .go ⟨(putE p.h (hplaceE q.1) (textI s q.2.1.1 q.2.1.2)).1, fun i => p.c i || decide (i = (hplaceE q.1).toNat)⟩
theorem keyE_size (s : ByteArray) (a b : Nat) : (keyE s a b).1.size ≤ s.size := by
  unfold keyE
  split
  · show (keyPart s a b).size ≤ s.size
    unfold keyPart
    rw [ByteArray.size_extract]; omega
  · exact Nat.zero_le _
end Go.Hdr
namespace Go.Proofs
open Go.RowKit Go.Shelf Go.Hdr Go.Fx Go.Wds Go.Metric Go.Layout Go.Cur
attribute [local go_sem] Oper.semAt_some
theorem HqS.pair {w W : World} {s : ByteArray} {n : Nat} {lv : Value} {p : Pr} (h : HqS w s n lv p W) {B : Nat} (hB : w.heap.size + 4 ≤ B) (v0 v1 : Value) (hl : (∃ x0 x1, W.heap[B]? = some (.cells #[x0, x1] 49)) := by exact ⟨_, _, by assumption⟩) : HqS w s n lv p ((W.setCell ⟨B, 0, none⟩ v0).setCell ⟨B, 1, none⟩ v1) := by
  have hs := fun j (hj : j ≠ B) => (Below.heap_setCell (W.setCell ⟨B, 0, none⟩ v0) ⟨B, 1, none⟩ v1 j hj).trans (Below.heap_setCell W ⟨B, 0, none⟩ v0 j hj)
  refine ⟨(h.below.setCell (by simp only; omega) _).setCell (by simp only; omega) _, (hs _ (by omega)).trans h.res, (hs _ (by omega)).trans h.dg, (hs _ (by omega)).trans h.hd, (hs _ (by omega)).trans h.cm, ?_⟩
  obtain ⟨x0, x1, hx⟩ := hl
  refine h.lines.kept (row := some B) ⟨rfl, rfl, rfl, by simp [World.setCell], fun k _ hk => hs _ (fun e => hk (by rw [e]))⟩ ?_
  rcases h.lines.2 with ⟨rfl, _⟩ | ⟨g, cap, cur, rfl, _, hg, _⟩
  · exact .inl rfl
  · refine .inr fun e => ?_
    obtain rfl : g = B := Option.some.inj e
    rw [hx] at hg
    injection (Option.some.inj hg) with _ e2
    cases e2
theorem HqS.cmat {w W : World} {s : ByteArray} {n : Nat} {lv : Value} {p : Pr} (h : HqS w s n lv p W) {m : Nat} (hm : m ≤ 5) : W.cell? ⟨w.heap.size + 1 + 1 + 1, m, none⟩ = some (.bool (p.c m)) ∧ W.frozen? ⟨w.heap.size + 1 + 1 + 1, m, none⟩ = false := by
  have := hbox_cell h.cm m
  refine ⟨?_, this.2⟩
  rw [this.1]
  rcases (show m = 0 ∨ m = 1 ∨ m = 2 ∨ m = 3 ∨ m = 4 ∨ m = 5 by omega) with rfl | rfl | rfl | rfl | rfl | rfl <;> rfl
theorem HqS.hdat {w W : World} {s : ByteArray} {n : Nat} {lv : Value} {p : Pr} (h : HqS w s n lv p W) : W.cell? ⟨w.heap.size + 1 + 1, 0, none⟩ = some (.string p.h.name) ∧ W.cell? ⟨w.heap.size + 1 + 1, 1, none⟩ = some (.int .i64 p.h.kind) ∧ W.cell? ⟨w.heap.size + 1 + 1, 2, none⟩ = some (.int .i64 p.h.dim) ∧ W.cell? ⟨w.heap.size + 1 + 1, 3, none⟩ = some (.int .i64 p.h.cap) ∧ W.cell? ⟨w.heap.size + 1 + 1, 4, none⟩ = some (.int .i64 p.h.met) ∧ W.cell? ⟨w.heap.size + 1 + 1, 5, none⟩ = some (.int .i64 p.h.lay) :=
  ⟨(hbox_cell h.hd 0).1, (hbox_cell h.hd 1).1, (hbox_cell h.hd 2).1, (hbox_cell h.hd 3).1, (hbox_cell h.hd 4).1, (hbox_cell h.hd 5).1⟩
theorem HqS.resat {w W : World} {s : ByteArray} {n : Nat} {lv : Value} {p : Pr} (h : HqS w s n lv p W) : (W.cell? ⟨w.heap.size, 0, none⟩ = some (.string ⟨#[]⟩) ∧ W.cell? ⟨w.heap.size, 1, none⟩ = some (.int .i64 0) ∧ W.cell? ⟨w.heap.size, 2, none⟩ = some (.int .i64 0) ∧ W.cell? ⟨w.heap.size, 3, none⟩ = some (.int .i64 0) ∧ W.cell? ⟨w.heap.size, 4, none⟩ = some (.int .i64 0) ∧ W.cell? ⟨w.heap.size, 5, none⟩ = some (.int .i64 0)) ∧ (W.cell? ⟨w.heap.size + 1, 0, none⟩ = some (.int .i64 0) ∧ W.cell? ⟨w.heap.size + 1, 1, none⟩ = some (.int .i64 0)) ∧ (∀ j, W.frozen? ⟨w.heap.size, j, none⟩ = false) ∧ ∀ j, W.frozen? ⟨w.heap.size + 1, j, none⟩ = false :=
  ⟨⟨(hbox_cell h.res 0).1, (hbox_cell h.res 1).1, (hbox_cell h.res 2).1, (hbox_cell h.res 3).1, (hbox_cell h.res 4).1, (hbox_cell h.res 5).1⟩, ⟨(hbox_cell h.dg 0).1, (hbox_cell h.dg 1).1⟩, fun j => (hbox_cell h.res j).2, fun j => (hbox_cell h.dg j).2⟩
theorem below_drew_h {B : Nat} {a w : World} (h : Below B a w) : Below B a w.drew := ⟨h.os, h.tape, h.output, h.size, h.block⟩
theorem own_set_b {W : World} {base : Nat} {e : TypeId} {size : Nat} {v : Value} {k : Nat} {xs : List Value} (h : W.ownsRow base e size v k xs) {a : Addr} (ha : v.ownBlock = some a.block → False) (u : Value) : (W.setCell a u).ownsRow base e size v k xs :=
  h.kept (row := some a.block) ⟨rfl, rfl, rfl, by simp [World.setCell], fun k _ hk => Below.heap_setCell _ _ _ _ (fun e => hk (by rw [e]))⟩ (.inr ha)
theorem HqS.six {w W : World} {s : ByteArray} {n : Nat} {lv : Value} {p : Pr} (h : HqS w s n lv p W) {B : Nat} (hB : w.heap.size + 4 ≤ B) (v0 v1 v2 v3 v4 v5 : Value) {cs : Array Value} (hx : W.heap[B]? = some (.cells cs 30)) : HqS w s n lv p ((((((W.setCell ⟨B, 0, none⟩ v0).setCell ⟨B, 1, none⟩ v1).setCell ⟨B, 2, none⟩ v2).setCell ⟨B, 3, none⟩ v3).setCell ⟨B, 4, none⟩ v4).setCell ⟨B, 5, none⟩ v5) := by
  have hs := fun j (hj : j ≠ B) => six_other (W := W) (B := B) (k := j) (v0 := v0) (v1 := v1) (v2 := v2) (v3 := v3) (v4 := v4) (v5 := v5) hj
  refine ⟨six_below h.below (by omega), (hs _ (by omega)).trans h.res, (hs _ (by omega)).trans h.dg, (hs _ (by omega)).trans h.hd, (hs _ (by omega)).trans h.cm, ?_⟩
  have hne : ∀ e : lv.ownBlock = some B, False := fun e => by
    rcases h.lines.2 with ⟨rfl, _⟩ | ⟨g, cap, cur, rfl, _, hg, _⟩
    · cases e
    · obtain rfl : g = B := Option.some.inj e
      rw [hx] at hg
      injection (Option.some.inj hg) with _ e2
      cases e2
  exact own_set_b (own_set_b (own_set_b (own_set_b (own_set_b (own_set_b h.lines hne _) hne _) hne _) hne _) hne _) hne _
theorem howns_slice {W : World} {base size n : Nat} {e : TypeId} {v : Value} {xs : List Value} (h : W.ownsRow base e size v n xs) : ∃ a c, v = .slice a n c := by
  rcases h.2 with ⟨rfl, rfl⟩ | ⟨g, cap, cur, rfl, _⟩
  · exact ⟨none, 0, rfl⟩
  · exact ⟨_, cap, rfl⟩
theorem place_le (k : ByteArray) : hplaceE k ≤ 5 := by
  unfold hplaceE
  repeat' split
  all_goals omega
theorem HqS.new {w w1 : World} {s : ByteArray} {n : Nat} {lv : Value} (hb : Below ((((w.alloc (.cells (hdC hd0) 30)).alloc (.cells #[.int .i64 0, .int .i64 0] 27)).alloc (.cells (hdC hd0) 30)).alloc (.cells (cmC fun _ => false) 45)).heap.size ((((w.alloc (.cells (hdC hd0) 30)).alloc (.cells #[.int .i64 0, .int .i64 0] 27)).alloc (.cells (hdC hd0) 30)).alloc (.cells (cmC fun _ => false) 45)) w1)
    (hl : w1.ownsRow ((((w.alloc (.cells (hdC hd0) 30)).alloc (.cells #[.int .i64 0, .int .i64 0] 27)).alloc (.cells (hdC hd0) 30)).alloc (.cells (cmC fun _ => false) 45)).heap.size 52 3 lv n (lineCells (rowsOf s.data.toList))) : HqS w s n lv pr0 w1 := by
  have e1 := World.alloc_heap_new w (.cells (hdC hd0) 30)
  have e2 := World.alloc_heap_new (w.alloc (.cells (hdC hd0) 30)) (.cells #[.int .i64 0, .int .i64 0] 27)
  have e3 := World.alloc_heap_new ((w.alloc (.cells (hdC hd0) 30)).alloc (.cells #[.int .i64 0, .int .i64 0] 27)) (.cells (hdC hd0) 30)
  have e4 := World.alloc_heap_new (((w.alloc (.cells (hdC hd0) 30)).alloc (.cells #[.int .i64 0, .int .i64 0] 27)).alloc (.cells (hdC hd0) 30)) (.cells (cmC fun _ => false) 45)
  have b1 := below_one_h w (.cells (hdC hd0) 30)
  have b2 := below_one_h (w.alloc (.cells (hdC hd0) 30)) (.cells #[.int .i64 0, .int .i64 0] 27)
  have b3 := below_one_h ((w.alloc (.cells (hdC hd0) 30)).alloc (.cells #[.int .i64 0, .int .i64 0] 27)) (.cells (hdC hd0) 30)
  have b4 := below_one_h (((w.alloc (.cells (hdC hd0) 30)).alloc (.cells #[.int .i64 0, .int .i64 0] 27)).alloc (.cells (hdC hd0) 30)) (.cells (cmC fun _ => false) 45)
  simp only [World.size_alloc] at e1 e2 e3 e4 b2 b3 b4 hb hl
  refine ⟨((b1.trans (b2.mono (by omega))).trans (b3.mono (by omega))).trans ((b4.trans (hb.mono (by omega))).mono (by omega)), ?_, ?_, ?_, ?_, ownsRow_base hl (by omega)⟩
  · exact ((hb.block _ (by omega)).trans ((b4.block _ (by omega)).trans ((b3.block _ (by omega)).trans (b2.block _ (by omega))))).trans e1
  · exact ((hb.block _ (by omega)).trans ((b4.block _ (by omega)).trans (b3.block _ (by omega)))).trans e2
  · exact ((hb.block _ (by omega)).trans (b4.block _ (by omega))).trans e3
  · exact (hb.block _ (by omega)).trans e4
set_option maxRecDepth 100000 in
set_option maxHeartbeats 16000000 in
theorem Tryz.rparse_calls (s : ByteArray) (w : World) (hs : s.size ≤ 1000000) :
    Calls Tryz.prog 6 #[.string s] w fun e w' => e = .returned (.tuple #[hdV (parseE s).1, .int .i64 ((parseE s).2.1 : Nat), .agg #[.int .i64 ((parseE s).2.2.1 : Nat), .int .i64 (parseE s).2.2.2]]) ∧ Below w.heap.size w w' := by
  have HLN : Hid ((rowsOf s.data.toList).length ≤ 1000001) := Nat.le_trans (List.length_filter_le _ _) (Nat.le_trans (lines_len s) (by omega))
  have HRC := Lib.hid fun W => Tryz.rRows_calls s W hs
  have HKY : Hid (∀ (a b : Nat) (W : World), a ≤ b → b ≤ s.size → Calls Tryz.prog 13 #[.string s, .int .i64 (a : Nat), .int .i64 (b : Nat)] W fun e w' => e = .returned (keyV (keyE s a b).1 (keyE s a b).2.1.1 (keyE s a b).2.1.2 (keyE s a b).2.2) ∧ Below W.heap.size W w') := fun a b W h1 h2 => Tryz.rKey_calls s a b _ _ _ _ W (by omega) (keyE_is s a b h1 h2)
  have HKS := Lib.hid fun a b => keyE_size s a b
  have HTX := Lib.hid fun (a b : Nat) W => Tryz.rText_calls s (a : Nat) (b : Nat) W
  have HPU := Lib.hid fun h k h0 h5 v W hv => Tryz.rput_calls h k h0 h5 v W hv
  have HBD : Hid (∀ i a b d, (rowsOf s.data.toList)[i]? = some (a, b, d) → a ≤ b ∧ b ≤ s.size) := fun i a b d h => by
    have hm := List.mem_filter.1 (List.mem_of_getElem? h)
    obtain ⟨j, hj⟩ := List.getElem?_of_mem hm.1
    have := lines_get hj
    exact ⟨this.1, by simpa using this.2.1⟩
  have HP0 := Lib.hid (parseE_PE s)
  generalize parseE s = R at *
  have hsz : (s.size : Int) ≤ 1000000 := by omega
  go_enter Tryz.func6, Tryz.ntmps6
  go_upto_block 0 with (go_at_call 12; (with_reducible refine (HRC.out _).mono ?_); rintro e w1 ⟨lv, rfl, hl1, hb1⟩; go_loud (have HS0 : Hid (HqS w s (rowsOf s.data.toList).length lv pr0 w1) := HqS.new hb1 hl1; obtain ⟨al, cl, rfl⟩ := howns_slice hl1; clear hb1 hl1))
  generalize hL : (rowsOf s.data.toList).length = L at *
  have HLL := Lib.hid hL
  clear hL
  go_cut [7] from 9 to 107 (fun s7 wx => ∃ (p : Pr) (e : Nat), s7 = .int .i64 (e : Int) ∧ Hid (R = PE (.inr (p, e))) ∧ HqS w s L (.slice al L cl) p wx)
  case first =>
   go_wp2
   go_loopw [7, 9] (fun en i wr => ∃ (k : Nat) (p : Pr), k ≤ L ∧ i = .int .i64 (k : Int) ∧ en = .int .i64 (s.size : Int) ∧ Hid (R = PE (rowsE14 s ((rowsOf s.data.toList).drop k) p)) ∧ HqS w s L (.slice al L cl) p wr) (fun _ i _ => L - (intOf i).toNat)
   case atStart => exact ⟨0, pr0, Nat.zero_le _, rfl, rfl, HP0, HS0.out⟩
   case round =>
    obtain ⟨k, p, hk, rfl, rfl, hR, hS⟩ := hrel
    have HS := Lib.hid hS
    clear hS HS0 HP0
    by_cases hlt : k < L
    · obtain ⟨⟨a, b, d⟩, hp⟩ : ∃ p, (rowsOf s.data.toList)[k]? = some p := ⟨_, List.getElem?_eq_getElem (by rw [HLL.out]; exact hlt)⟩
      have hdrop : (rowsOf s.data.toList).drop k = (a, b, d) :: (rowsOf s.data.toList).drop (k + 1) := by
        obtain ⟨hk', e⟩ := List.getElem?_eq_some_iff.1 hp
        rw [← e]; exact List.drop_eq_getElem_cons hk'
      rw [hdrop] at hR
      have hln := HS.out.lines
      obtain ⟨g, rfl⟩ : ∃ g, al = some ⟨g, 0, none⟩ := by
        rcases hln.2 with ⟨h0, h1⟩ | ⟨g, cap, cur, h0, _⟩
        · omega
        · cases h0; exact ⟨g, rfl⟩
      have HCE : Hid (∀ (W : World), W.ownsRow (w.heap.size + 4) 52 3 (.slice (some ⟨g, 0, none⟩) L cl) L (lineCells (rowsOf s.data.toList)) → W.cell? ⟨g, k * 3, none⟩ = some (.int .i64 (a : Nat)) ∧ W.cell? ⟨g, k * 3 + 1, none⟩ = some (.int .i64 (b : Nat))) := fun W h => hline_cells (by rw [HLL.out]; exact h) hp
      obtain ⟨hab, hbs⟩ := HBD.out k a b d hp
      have hki : (k : Int) < (L : Int) := by omega
      have hkb : k ≤ 1000001 := Nat.le_trans hk HLN.out
      obtain ⟨x0, x1⟩ := HCE.out _ hln
      have HK := Lib.hid fun W => HKY.out a b W hab hbs
      have hks := HKS.out a b
      have HRW : Hid (∀ P, rowE s P (a, b, d) = rowQ s P a (keyE s a b)) := fun P => rfl
      generalize keyE s a b = Q at *
      obtain ⟨K, ⟨i0, j0⟩, t0⟩ := Q
      unfold rowQ at HRW
      simp only [keyV] at HK HRW hks
      clear hp hln hdrop
      clear x0 x1
      go_upto_region 8 with (fail)
      go_cut [10, 11, 12] from 28 to 43 (fun s10 s11 s12 wx => ∃ B : Nat, s10 = .string K ∧ s11 = .pointer (some ⟨B, 0, none⟩) ∧ s12 = .bool t0 ∧ w.heap.size + 4 ≤ B ∧ wx.heap[B]? = some (.cells #[.int .i64 (i0 : Nat), .int .i64 (j0 : Nat)] 49) ∧ HqS w s L (.slice (some ⟨g, 0, none⟩) L cl) p wx)
      case first =>
        go_upto_region 8 with (fail)
        have N0 := HS.out.drew
        refine wp_region_held_drew (S := fun V => V.ownsRow (w.heap.size + 4) 52 3 (.slice (some ⟨g, 0, none⟩) L cl) L (lineCells (rowsOf s.data.toList))) (by kernel_rfl) (N0.lines) (fun hHeld0 => ?_)
        clear hHeld0
        generalize wr.drew = V0 at *
        refine wpAnyH_take (i := 0) (v := ?_) rfl (by kernel_rfl) (by kernel_rfl) (by kernel_rfl) (fun _ _ _ h => h) (Or.inl ⟨by kernel_rfl, ?_⟩) (N0.lines) ?_
        rotate_left
        · (intro w0 hSw; (try dsimp only at hSw); have e0 := (HCE.out _ hSw).1; have e1 := (HCE.out _ hSw).2; go_simp; try with_reducible rfl)
        try dsimp only [List.getElem_toArray, List.getElem_cons_succ, List.getElem_cons_zero, Act.put]
        try simp only [List.setIfInBounds_toArray, List.set_cons_zero, List.set_cons_succ]
        refine wpAnyH_take (i := 1) (v := ?_) rfl (by kernel_rfl) (by kernel_rfl) (by kernel_rfl) (fun _ _ _ h => h) (Or.inl ⟨by kernel_rfl, ?_⟩) (N0.lines) ?_
        rotate_left
        · (intro w0 hSw; (try dsimp only at hSw); have e0 := (HCE.out _ hSw).1; have e1 := (HCE.out _ hSw).2; go_simp; try with_reducible rfl)
        try dsimp only [List.getElem_toArray, List.getElem_cons_succ, List.getElem_cons_zero, Act.put]
        try simp only [List.setIfInBounds_toArray, List.set_cons_zero, List.set_cons_succ]
        refine wpAnyH_take (i := 2) (v := ?_) rfl (by kernel_rfl) (by kernel_rfl) (by kernel_rfl) (fun _ _ _ h => h) (Or.inl ⟨by kernel_rfl, ?_⟩) (N0.lines) ?_
        rotate_left
        · (intro w0 hSw; (try dsimp only at hSw); have e0 := (HCE.out _ hSw).1; have e1 := (HCE.out _ hSw).2; go_simp; try with_reducible rfl)
        try dsimp only [List.getElem_toArray, List.getElem_cons_succ, List.getElem_cons_zero, Act.put]
        try simp only [List.setIfInBounds_toArray, List.set_cons_zero, List.set_cons_succ]
        refine wpAnyH_take (i := 3) (v := ?_) rfl (by kernel_rfl) (by kernel_rfl) (by kernel_rfl) (fun _ _ _ h => h) (Or.inl ⟨by kernel_rfl, ?_⟩) (N0.lines) ?_
        rotate_left
        · (intro w0 hSw; (try dsimp only at hSw); have e0 := (HCE.out _ hSw).1; have e1 := (HCE.out _ hSw).2; go_simp; try with_reducible rfl)
        try dsimp only [List.getElem_toArray, List.getElem_cons_succ, List.getElem_cons_zero, Act.put]
        try simp only [List.setIfInBounds_toArray, List.set_cons_zero, List.set_cons_succ]
        refine wpAnyH_take (i := 4) (v := ?_) rfl (by kernel_rfl) (by kernel_rfl) (by kernel_rfl) (fun _ _ _ h => h) (Or.inl ⟨by kernel_rfl, ?_⟩) (N0.lines) ?_
        rotate_left
        · (intro w0 hSw; (try dsimp only at hSw); have e0 := (HCE.out _ hSw).1; have e1 := (HCE.out _ hSw).2; go_simp; try with_reducible rfl)
        try dsimp only [List.getElem_toArray, List.getElem_cons_succ, List.getElem_cons_zero, Act.put]
        try simp only [List.setIfInBounds_toArray, List.set_cons_zero, List.set_cons_succ]
        refine wpAnyH_take (i := 5) (v := ?_) rfl (by kernel_rfl) (by kernel_rfl) (by kernel_rfl) (fun _ _ _ h => h) (Or.inl ⟨by kernel_rfl, ?_⟩) (N0.lines) ?_
        rotate_left
        · (intro w0 hSw; (try dsimp only at hSw); have e0 := (HCE.out _ hSw).1; have e1 := (HCE.out _ hSw).2; go_simp; try with_reducible rfl)
        try dsimp only [List.getElem_toArray, List.getElem_cons_succ, List.getElem_cons_zero, Act.put]
        try simp only [List.setIfInBounds_toArray, List.set_cons_zero, List.set_cons_succ]
        refine wpAnyH_take (i := 6) (v := ?_) rfl (by kernel_rfl) (by kernel_rfl) (by kernel_rfl) (fun _ _ _ h => h) (Or.inl ⟨by kernel_rfl, ?_⟩) (N0.lines) ?_
        rotate_left
        · (intro w0 hSw; (try dsimp only at hSw); have e0 := (HCE.out _ hSw).1; have e1 := (HCE.out _ hSw).2; go_simp; try with_reducible rfl)
        try dsimp only [List.getElem_toArray, List.getElem_cons_succ, List.getElem_cons_zero, Act.put]
        try simp only [List.setIfInBounds_toArray, List.set_cons_zero, List.set_cons_succ]
        refine wpAnyH_take (i := 7) (v := ?_) rfl (by kernel_rfl) (by kernel_rfl) (by kernel_rfl) (fun _ _ _ h => h) (Or.inl ⟨by kernel_rfl, ?_⟩) (N0.lines) ?_
        rotate_left
        · (intro w0 hSw; (try dsimp only at hSw); have e0 := (HCE.out _ hSw).1; have e1 := (HCE.out _ hSw).2; go_simp; try with_reducible rfl)
        try dsimp only [List.getElem_toArray, List.getElem_cons_succ, List.getElem_cons_zero, Act.put]
        try simp only [List.setIfInBounds_toArray, List.set_cons_zero, List.set_cons_succ]
        refine wpAnyH_take (i := 8) (v := ?_) rfl (by kernel_rfl) (by kernel_rfl) (by kernel_rfl) (fun _ _ _ h => h) (Or.inl ⟨by kernel_rfl, ?_⟩) (N0.lines) ?_
        rotate_left
        · (intro w0 hSw; (try dsimp only at hSw); have e0 := (HCE.out _ hSw).1; have e1 := (HCE.out _ hSw).2; go_simp; try with_reducible rfl)
        try dsimp only [List.getElem_toArray, List.getElem_cons_succ, List.getElem_cons_zero, Act.put]
        try simp only [List.setIfInBounds_toArray, List.set_cons_zero, List.set_cons_succ]
        refine wpAnyH_take (i := 9) (v := ?_) rfl (by kernel_rfl) (by kernel_rfl) (by kernel_rfl) (fun _ _ _ h => h) (Or.inl ⟨by kernel_rfl, ?_⟩) (N0.lines) ?_
        rotate_left
        · (intro w0 hSw; (try dsimp only at hSw); have e0 := (HCE.out _ hSw).1; have e1 := (HCE.out _ hSw).2; go_simp; try with_reducible rfl)
        try dsimp only [List.getElem_toArray, List.getElem_cons_succ, List.getElem_cons_zero, Act.put]
        try simp only [List.setIfInBounds_toArray, List.set_cons_zero, List.set_cons_succ]
        refine wpAnyH_take (i := 10) (v := ?_) rfl (by kernel_rfl) (by kernel_rfl) (by kernel_rfl) (fun _ _ _ h => h) (Or.inl ⟨by kernel_rfl, ?_⟩) (N0.lines) ?_
        rotate_left
        · (intro w0 hSw; (try dsimp only at hSw); have e0 := (HCE.out _ hSw).1; have e1 := (HCE.out _ hSw).2; go_simp; try with_reducible rfl)
        try dsimp only [List.getElem_toArray, List.getElem_cons_succ, List.getElem_cons_zero, Act.put]
        try simp only [List.setIfInBounds_toArray, List.set_cons_zero, List.set_cons_succ]
        refine wpAnyH_ready (rs := [11, 16]) (by kernel_rfl) (by simp) (AllReadyH.cons rfl (fun KK hKK => ?_) (AllReadyH.cons rfl (fun KK hKK => ?_) AllReadyH.nil))
        · go_simp
          go_at_call 13
          (with_reducible refine (HK.out _).mono ?_)
          rintro e W11 ⟨rfl, hb11⟩
          have N1 := N0.next hb11
          refine hKK.out _ _ (N1.lines) (fun _ => ?_)
          clear hKK KK
          try dsimp only [List.getElem_toArray, List.getElem_cons_succ, List.getElem_cons_zero, Act.put]
          try simp only [List.setIfInBounds_toArray, List.set_cons_zero, List.set_cons_succ]
          clear N0 hb11
          refine wpAnyH_take (i := 12) (v := ?_) rfl (by kernel_rfl) (by kernel_rfl) (by kernel_rfl) (fun _ _ _ h => h) (Or.inl ⟨by kernel_rfl, ?_⟩) (N1.lines) ?_
          rotate_left
          · (intro w0 hSw; (try dsimp only at hSw); skip; go_simp; try with_reducible rfl)
          try dsimp only [List.getElem_toArray, List.getElem_cons_succ, List.getElem_cons_zero, Act.put]
          try simp only [List.setIfInBounds_toArray, List.set_cons_zero, List.set_cons_succ]
          refine wpAnyH_take (i := 13) (v := ?_) rfl (by kernel_rfl) (by kernel_rfl) (by kernel_rfl) (fun _ _ _ h => h) (Or.inl ⟨by kernel_rfl, ?_⟩) (N1.lines) ?_
          rotate_left
          · (intro w0 hSw; (try dsimp only at hSw); skip; go_simp; try with_reducible rfl)
          try dsimp only [List.getElem_toArray, List.getElem_cons_succ, List.getElem_cons_zero, Act.put]
          try simp only [List.setIfInBounds_toArray, List.set_cons_zero, List.set_cons_succ]
          refine wpAnyH_take (i := 14) (v := ?_) rfl (by kernel_rfl) (by kernel_rfl) (by kernel_rfl) (fun _ _ _ h => h) (Or.inl ⟨by kernel_rfl, ?_⟩) (N1.lines) ?_
          rotate_left
          · (intro w0 hSw; (try dsimp only at hSw); skip; go_simp; try with_reducible rfl)
          try dsimp only [List.getElem_toArray, List.getElem_cons_succ, List.getElem_cons_zero, Act.put]
          try simp only [List.setIfInBounds_toArray, List.set_cons_zero, List.set_cons_succ]
          refine wpAnyH_take (i := 15) (v := ?_) rfl (by kernel_rfl) (by kernel_rfl) (by kernel_rfl) (fun _ _ _ h => h) (Or.inl ⟨by kernel_rfl, ?_⟩) (N1.lines) ?_
          rotate_left
          · (intro w0 hSw; (try dsimp only at hSw); skip; go_simp; try with_reducible rfl)
          try dsimp only [List.getElem_toArray, List.getElem_cons_succ, List.getElem_cons_zero, Act.put]
          try simp only [List.setIfInBounds_toArray, List.set_cons_zero, List.set_cons_succ]
          refine wpAnyH_ready (rs := [16]) (by kernel_rfl) (by simp) (AllReadyH.cons rfl (fun KK hKK => ?_) AllReadyH.nil)
          go_simp
          have N2 := N1.next (below_one_h W11 (.cells #[.int .i64 0, .int .i64 0] 49))
          have n2 : (W11.alloc (.cells #[.int .i64 0, .int .i64 0] 49)).heap[W11.heap.size]? = _ := World.alloc_heap_new _ _
          have hBs : w.heap.size + 4 ≤ W11.heap.size := N1.lt
          have hBl : W11.heap.size < (W11.alloc (.cells #[.int .i64 0, .int .i64 0] 49)).heap.size := by simp
          obtain ⟨B, hB⟩ : ∃ B, W11.heap.size = B := ⟨_, rfl⟩
          rw [hB] at n2 hBs hBl ⊢
          generalize W11.alloc (.cells #[.int .i64 0, .int .i64 0] 49) = V2 at *
          clear hB
          refine hKK.out _ _ (N2.lines) (fun _ => ?_)
          clear hKK KK
          try dsimp only [List.getElem_toArray, List.getElem_cons_succ, List.getElem_cons_zero, Act.put]
          try simp only [List.setIfInBounds_toArray, List.set_cons_zero, List.set_cons_succ]
          clear N1
          refine wpAnyH_take (i := 17) (v := ?_) rfl (by kernel_rfl) (by kernel_rfl) (by kernel_rfl) (fun _ _ _ h => h) (Or.inl ⟨by kernel_rfl, ?_⟩) (N2.lines) ?_
          rotate_left
          · (intro w0 hSw; (try dsimp only at hSw); skip; go_simp; try with_reducible rfl)
          try dsimp only [List.getElem_toArray, List.getElem_cons_succ, List.getElem_cons_zero, Act.put]
          try simp only [List.setIfInBounds_toArray, List.set_cons_zero, List.set_cons_succ]
          refine wpAnyH_ready (rs := [18]) (by kernel_rfl) (by simp) (AllReadyH.cons rfl (fun KK hKK => ?_) AllReadyH.nil)
          go_simp
          have y0 := hbox_cell n2 0; have y1 := hbox_cell n2 1
          simp only [List.getElem?_toArray, List.getElem?_cons_zero, List.getElem?_cons_succ] at y0 y1
          try go_simp
          have N3 := N2.pair (B := B) (by omega) (.int .i64 (i0 : Nat)) (.int .i64 (j0 : Nat))
          have n3 := pair_own_h (v0 := .int .i64 (i0 : Nat)) (v1 := .int .i64 (j0 : Nat)) n2
          refine hKK.out _ _ (N3.lines) (fun _ => ?_)
          clear hKK KK
          try dsimp only [List.getElem_toArray, List.getElem_cons_succ, List.getElem_cons_zero, Act.put]
          try simp only [List.setIfInBounds_toArray, List.set_cons_zero, List.set_cons_succ]
          clear N2 n2 y0 y1
          generalize (V2.setCell ⟨B, 0, none⟩ (.int .i64 (i0 : Nat))).setCell ⟨B, 1, none⟩ (.int .i64 (j0 : Nat)) = V3 at *
          refine wpAnyH_take (i := 19) (v := ?_) rfl (by kernel_rfl) (by kernel_rfl) (by kernel_rfl) (fun _ _ _ h => h) (Or.inl ⟨by kernel_rfl, ?_⟩) (N3.lines) ?_
          rotate_left
          · (intro w0 hSw; (try dsimp only at hSw); skip; go_simp; try with_reducible rfl)
          try dsimp only [List.getElem_toArray, List.getElem_cons_succ, List.getElem_cons_zero, Act.put]
          try simp only [List.setIfInBounds_toArray, List.set_cons_zero, List.set_cons_succ]
          refine wpAnyH_done (by kernel_rfl) ?_ _
          try dsimp only [List.getElem_toArray, List.getElem_cons_succ, List.getElem_cons_zero, Act.put]
          try simp only [List.setIfInBounds_toArray, List.set_cons_zero, List.set_cons_succ]
          go_wp2
          go_meet
          case rel => exact ⟨B, rfl, rfl, rfl, by omega, n3, N3⟩
        · go_simp
          have N1 := N0.next (below_one_h V0 (.cells #[.int .i64 0, .int .i64 0] 49))
          have n2 : (V0.alloc (.cells #[.int .i64 0, .int .i64 0] 49)).heap[V0.heap.size]? = _ := World.alloc_heap_new _ _
          have hBs : w.heap.size + 4 ≤ V0.heap.size := N0.lt
          have hBl : V0.heap.size < (V0.alloc (.cells #[.int .i64 0, .int .i64 0] 49)).heap.size := by simp
          obtain ⟨B, hB⟩ : ∃ B, V0.heap.size = B := ⟨_, rfl⟩
          rw [hB] at n2 hBs hBl ⊢
          generalize V0.alloc (.cells #[.int .i64 0, .int .i64 0] 49) = V1 at *
          clear hB
          refine hKK.out _ _ (N1.lines) (fun _ => ?_)
          clear hKK KK
          try dsimp only [List.getElem_toArray, List.getElem_cons_succ, List.getElem_cons_zero, Act.put]
          try simp only [List.setIfInBounds_toArray, List.set_cons_zero, List.set_cons_succ]
          clear N0
          refine wpAnyH_ready (rs := [11]) (by kernel_rfl) (by simp) (AllReadyH.cons rfl (fun KK hKK => ?_) AllReadyH.nil)
          go_simp
          go_at_call 13
          (with_reducible refine (HK.out _).mono ?_)
          rintro e V2 ⟨rfl, hb11⟩
          have N2 := N1.next hb11
          replace n2 := (hb11.block _ hBl).trans n2
          refine hKK.out _ _ (N2.lines) (fun _ => ?_)
          clear hKK KK
          try dsimp only [List.getElem_toArray, List.getElem_cons_succ, List.getElem_cons_zero, Act.put]
          try simp only [List.setIfInBounds_toArray, List.set_cons_zero, List.set_cons_succ]
          clear N1 hb11
          refine wpAnyH_take (i := 12) (v := ?_) rfl (by kernel_rfl) (by kernel_rfl) (by kernel_rfl) (fun _ _ _ h => h) (Or.inl ⟨by kernel_rfl, ?_⟩) (N2.lines) ?_
          rotate_left
          · (intro w0 hSw; (try dsimp only at hSw); skip; go_simp; try with_reducible rfl)
          try dsimp only [List.getElem_toArray, List.getElem_cons_succ, List.getElem_cons_zero, Act.put]
          try simp only [List.setIfInBounds_toArray, List.set_cons_zero, List.set_cons_succ]
          refine wpAnyH_take (i := 13) (v := ?_) rfl (by kernel_rfl) (by kernel_rfl) (by kernel_rfl) (fun _ _ _ h => h) (Or.inl ⟨by kernel_rfl, ?_⟩) (N2.lines) ?_
          rotate_left
          · (intro w0 hSw; (try dsimp only at hSw); skip; go_simp; try with_reducible rfl)
          try dsimp only [List.getElem_toArray, List.getElem_cons_succ, List.getElem_cons_zero, Act.put]
          try simp only [List.setIfInBounds_toArray, List.set_cons_zero, List.set_cons_succ]
          refine wpAnyH_take (i := 14) (v := ?_) rfl (by kernel_rfl) (by kernel_rfl) (by kernel_rfl) (fun _ _ _ h => h) (Or.inl ⟨by kernel_rfl, ?_⟩) (N2.lines) ?_
          rotate_left
          · (intro w0 hSw; (try dsimp only at hSw); skip; go_simp; try with_reducible rfl)
          try dsimp only [List.getElem_toArray, List.getElem_cons_succ, List.getElem_cons_zero, Act.put]
          try simp only [List.setIfInBounds_toArray, List.set_cons_zero, List.set_cons_succ]
          refine wpAnyH_take (i := 15) (v := ?_) rfl (by kernel_rfl) (by kernel_rfl) (by kernel_rfl) (fun _ _ _ h => h) (Or.inl ⟨by kernel_rfl, ?_⟩) (N2.lines) ?_
          rotate_left
          · (intro w0 hSw; (try dsimp only at hSw); skip; go_simp; try with_reducible rfl)
          try dsimp only [List.getElem_toArray, List.getElem_cons_succ, List.getElem_cons_zero, Act.put]
          try simp only [List.setIfInBounds_toArray, List.set_cons_zero, List.set_cons_succ]
          refine wpAnyH_take (i := 17) (v := ?_) rfl (by kernel_rfl) (by kernel_rfl) (by kernel_rfl) (fun _ _ _ h => h) (Or.inl ⟨by kernel_rfl, ?_⟩) (N2.lines) ?_
          rotate_left
          · (intro w0 hSw; (try dsimp only at hSw); skip; go_simp; try with_reducible rfl)
          try dsimp only [List.getElem_toArray, List.getElem_cons_succ, List.getElem_cons_zero, Act.put]
          try simp only [List.setIfInBounds_toArray, List.set_cons_zero, List.set_cons_succ]
          refine wpAnyH_ready (rs := [18]) (by kernel_rfl) (by simp) (AllReadyH.cons rfl (fun KK hKK => ?_) AllReadyH.nil)
          go_simp
          have y0 := hbox_cell n2 0; have y1 := hbox_cell n2 1
          simp only [List.getElem?_toArray, List.getElem?_cons_zero, List.getElem?_cons_succ] at y0 y1
          try go_simp
          have N3 := N2.pair (B := B) (by omega) (.int .i64 (i0 : Nat)) (.int .i64 (j0 : Nat))
          have n3 := pair_own_h (v0 := .int .i64 (i0 : Nat)) (v1 := .int .i64 (j0 : Nat)) n2
          refine hKK.out _ _ (N3.lines) (fun _ => ?_)
          clear hKK KK
          try dsimp only [List.getElem_toArray, List.getElem_cons_succ, List.getElem_cons_zero, Act.put]
          try simp only [List.setIfInBounds_toArray, List.set_cons_zero, List.set_cons_succ]
          clear N2 n2 y0 y1
          generalize (V2.setCell ⟨B, 0, none⟩ (.int .i64 (i0 : Nat))).setCell ⟨B, 1, none⟩ (.int .i64 (j0 : Nat)) = V3 at *
          refine wpAnyH_take (i := 19) (v := ?_) rfl (by kernel_rfl) (by kernel_rfl) (by kernel_rfl) (fun _ _ _ h => h) (Or.inl ⟨by kernel_rfl, ?_⟩) (N3.lines) ?_
          rotate_left
          · (intro w0 hSw; (try dsimp only at hSw); skip; go_simp; try with_reducible rfl)
          try dsimp only [List.getElem_toArray, List.getElem_cons_succ, List.getElem_cons_zero, Act.put]
          try simp only [List.setIfInBounds_toArray, List.set_cons_zero, List.set_cons_succ]
          refine wpAnyH_done (by kernel_rfl) ?_ _
          try dsimp only [List.getElem_toArray, List.getElem_cons_succ, List.getElem_cons_zero, Act.put]
          try simp only [List.setIfInBounds_toArray, List.set_cons_zero, List.set_cons_succ]
          go_wp2
          go_meet
          case rel => exact ⟨B, rfl, rfl, rfl, by omega, n3, N3⟩

      case rest =>
        obtain ⟨B, rfl, rfl, rfl, hB, hBX, hS3⟩ := hcut
        have HS3 := Lib.hid hS3; have HBX := Lib.hid hBX
        have HEN := Lib.hid (Tryz.rends_calls K hkSec wc (by omega) (by decide))
        obtain ⟨x0, x1⟩ := HCE.out _ hS3.lines
        have hEof : (K.toList == [69, 79, 70]) = decide (K = hkEof) := htext_beq K _
        have hCom : (K.toList == [67, 79, 77, 77, 69, 78, 84]) = decide (K = hkCom) := htext_beq K _
        have hDis : (K.toList == [68, 73, 83, 80, 76, 65, 89, 95, 68, 65, 84, 65, 95, 84, 89, 80, 69]) = decide (K = hkDis) := htext_beq K _
        have hNod : (K.toList == [78, 79, 68, 69, 95, 67, 79, 79, 82, 68, 95, 84, 89, 80, 69]) = decide (K = hkNod) := htext_beq K _
        have HRP := Lib.hid (HRW.out p)
        have HRG : Hid (∀ q, rowE s p (a, b, d) = .go q → R = PE (rowsE14 s ((rowsOf s.data.toList).drop (k + 1)) q)) := fun q h => by rw [hR.out]; exact PE_go h
        have HRB : Hid (∀ x c, rowE s p (a, b, d) = .bad x c → R = (hd0, 0, x, c)) := fun x c h => by rw [hR.out]; exact PE_bad h
        have HRS : Hid (rowE s p (a, b, d) = .stop → R = PE (.inr (p, a))) := fun h => by rw [hR.out]; exact PE_stop h
        have hEB : endB K = (endsE K hkSec || decide (K = hkEof)) := rfl
        have hSB : skipB K = (decide (K = hkCom) || decide (K = hkDis) || decide (K = hkNod)) := rfl
        rw [hEB, hSB] at HRP
        clear hEB hSB hS3 hBX HRW hR
        generalize endsE K hkSec = bS at *
        generalize decide (K = hkEof) = bE at *
        generalize decide (K = hkCom) = bC at *
        generalize decide (K = hkDis) = bD at *
        generalize decide (K = hkNod) = bN at *
        have HX4 := Lib.hid hB
        unfold hkSec at HEN
        cases bS with
        | true =>
          have HR9 := Lib.hid (HRS.out (by rw [HRP.out]; rfl))
          go_wp2_with (go_at_call 14; (with_reducible refine HEN.out.mono ?_); rintro e wz ⟨rfl, rfl⟩)
          go_meet
          exact ⟨p, a, rfl, HR9, HS3.out⟩
        | false =>
          cases bE with
          | true =>
            have HR9 := Lib.hid (HRS.out (by rw [HRP.out]; rfl))
            go_wp2_with (go_at_call 14; (with_reducible refine HEN.out.mono ?_); rintro e wz ⟨rfl, rfl⟩)
            go_meet
            exact ⟨p, a, rfl, HR9, HS3.out⟩
          | false =>
            cases t0 with
            | false =>
              have HR9 := Lib.hid (HRB.out a 3 (by rw [HRP.out]; rfl))
              go_upto_region 12 with (go_at_call 14; (with_reducible refine HEN.out.mono ?_); rintro e wz ⟨rfl, rfl⟩)
              have HB9 := Lib.hid HS3.out.below
              obtain ⟨⟨r0, r1, r2, r3, r4, r5⟩, ⟨q0, q1⟩, fr, fq⟩ := HS3.out.resat
              have f0 := fr 0; have f1 := fr 1; have f2 := fr 2; have f3 := fr 3; have f4 := fr 4; have f5 := fr 5; have g0 := fq 0; have g1 := fq 1
              clear fr fq
              have hsz9 : w.heap.size + 4 ≤ _ := HS3.out.lt
              have hgb := (HS3.out.lines.lt g rfl).1
              have hg1 : g ≠ w.heap.size := by omega
              have hg2 : ¬ w.heap.size = g := by omega
              go_region
              go_wp2
              refine bodyPost_ret (v := .tuple #[hdV hd0, .int .i64 0, .agg #[.int .i64 (a : Nat), .int .i64 3]]) (by simp [results, Tryz.results6, go_sem, hdV, hd0, r0, r1, r2, r3, r4, r5, q0, q1]) rfl ⟨by rw [HR9.out]; rfl, ?_⟩
              exact below_drew_h (((six_below HB9.out (Nat.le_refl _)).setCell (by simp) _).setCell (by simp) _)
            | true =>
              cases bC with
              | true =>
                have HR9 := Lib.hid (HRG.out p (by rw [HRP.out]; rfl))
                go_wp2_with (go_at_call 14; (with_reducible refine HEN.out.mono ?_); rintro e wz ⟨rfl, rfl⟩)
                go_roundw
                case rel => exact ⟨k + 1, p, by omega, by go_num, rfl, HR9, HS3.out⟩
                case measure => simp [intOf]; omega
              | false =>
                cases bD with
                | true =>
                  have HR9 := Lib.hid (HRG.out p (by rw [HRP.out]; rfl))
                  go_wp2_with (go_at_call 14; (with_reducible refine HEN.out.mono ?_); rintro e wz ⟨rfl, rfl⟩)
                  go_roundw
                  case rel => exact ⟨k + 1, p, by omega, by go_num, rfl, HR9, HS3.out⟩
                  case measure => simp [intOf]; omega
                | false =>
                  cases bN with
                  | true =>
                    have HR9 := Lib.hid (HRG.out p (by rw [HRP.out]; rfl))
                    go_wp2_with (go_at_call 14; (with_reducible refine HEN.out.mono ?_); rintro e wz ⟨rfl, rfl⟩)
                    go_roundw
                    case rel => exact ⟨k + 1, p, by omega, by go_num, rfl, HR9, HS3.out⟩
                    case measure => simp [intOf]; omega
                  | false =>
                    have HPL := Lib.hid fun W => Tryz.rplace_calls K W
                    have hpb := place_le K
                    generalize hplaceE K = pl at *
                    by_cases hpl : pl < 0
                    · have HR9 := Lib.hid (HRB.out a 140 (by rw [HRP.out]; simp [hpl]))
                      have d9 : decide (pl < 0) = true := decide_eq_true hpl
                      go_upto_region 16 with (first | (go_at_call 14; (with_reducible refine HEN.out.mono ?_); rintro e wz ⟨rfl, rfl⟩) | (go_at_call 15; (with_reducible refine (HPL.out _).mono ?_); rintro e wz ⟨rfl, rfl⟩))
                      have HB9 := Lib.hid HS3.out.below
                      obtain ⟨⟨r0, r1, r2, r3, r4, r5⟩, ⟨q0, q1⟩, fr, fq⟩ := HS3.out.resat
                      have f0 := fr 0; have f1 := fr 1; have f2 := fr 2; have f3 := fr 3; have f4 := fr 4; have f5 := fr 5; have g0 := fq 0; have g1 := fq 1
                      clear fr fq
                      have hsz9 : w.heap.size + 4 ≤ _ := HS3.out.lt
                      have hgb := (HS3.out.lines.lt g rfl).1
                      have hg1 : g ≠ w.heap.size := by omega
                      have hg2 : ¬ w.heap.size = g := by omega
                      go_region
                      go_wp2
                      refine bodyPost_ret (v := .tuple #[hdV hd0, .int .i64 0, .agg #[.int .i64 (a : Nat), .int .i64 140]]) (by simp [results, Tryz.results6, go_sem, hdV, hd0, r0, r1, r2, r3, r4, r5, q0, q1]) rfl ⟨by rw [HR9.out]; rfl, ?_⟩
                      exact below_drew_h (((six_below HB9.out (Nat.le_refl _)).setCell (by simp) _).setCell (by simp) _)
                    · obtain ⟨m, rfl⟩ : ∃ m : Nat, pl = (m : Int) := ⟨pl.toNat, by omega⟩
                      have hm5 : m ≤ 5 := by omega
                      have hmi : (m : Int) < 6 := by omega
                      obtain ⟨c0, c1⟩ := HS3.out.cmat hm5
                      cases hcm : p.c m with
                      | true =>
                        have HR9 := Lib.hid (HRB.out a 140 (by rw [HRP.out]; simp [hcm]))
                        rw [hcm] at c0
                        go_upto_region 16 with (first | (go_at_call 14; (with_reducible refine HEN.out.mono ?_); rintro e wz ⟨rfl, rfl⟩) | (go_at_call 15; (with_reducible refine (HPL.out _).mono ?_); rintro e wz ⟨rfl, rfl⟩))
                        have HB9 := Lib.hid HS3.out.below
                        obtain ⟨⟨r0, r1, r2, r3, r4, r5⟩, ⟨q0, q1⟩, fr, fq⟩ := HS3.out.resat
                        have f0 := fr 0; have f1 := fr 1; have f2 := fr 2; have f3 := fr 3; have f4 := fr 4; have f5 := fr 5; have g0 := fq 0; have g1 := fq 1
                        clear fr fq
                        have hsz9 : w.heap.size + 4 ≤ _ := HS3.out.lt
                        have hgb := (HS3.out.lines.lt g rfl).1
                        have hg1 : g ≠ w.heap.size := by omega
                        have hg2 : ¬ w.heap.size = g := by omega
                        clear c0 c1
                        go_region
                        go_wp2
                        refine bodyPost_ret (v := .tuple #[hdV hd0, .int .i64 0, .agg #[.int .i64 (a : Nat), .int .i64 140]]) (by simp [results, Tryz.results6, go_sem, hdV, hd0, r0, r1, r2, r3, r4, r5, q0, q1]) rfl ⟨by rw [HR9.out]; rfl, ?_⟩
                        exact below_drew_h (((six_below HB9.out (Nat.le_refl _)).setCell (by simp) _).setCell (by simp) _)
                      | false =>
                        rw [hcm] at c0
                        go_upto_region 18 with (first | (go_at_call 14; (with_reducible refine HEN.out.mono ?_); rintro e wz ⟨rfl, rfl⟩) | (go_at_call 15; (with_reducible refine (HPL.out _).mono ?_); rintro e wz ⟨rfl, rfl⟩))
                        have HS4 := Lib.hid (HS3.out.came hm5)
                        have HBX4 : Hid ((wz.setCell ⟨w.heap.size + 1 + 1 + 1, m, none⟩ (.bool true)).heap[B]? = some (.cells #[.int .i64 (i0 : Nat), .int .i64 (j0 : Nat)] 49)) := (Below.heap_setCell wz ⟨w.heap.size + 1 + 1 + 1, m, none⟩ (.bool true) B (by have := HX4.out; simp only; omega)).trans HBX.out
                        have HT := Lib.hid fun W => HTX.out i0 j0 W
                        have hts : (textI s (i0 : Int) (j0 : Int)).size ≤ 2000000 := by
                          unfold textI
                          split
                          · rw [ByteArray.size_extract]; omega
                          · exact Nat.zero_le _
                        simp only [Int.toNat_natCast] at HRP
                        rw [hcm] at HRP
                        generalize textI s (i0 : Int) (j0 : Int) = T at *
                        have HP := Lib.hid fun W => HPU.out p.h (m : Int) (by omega) (by omega) T W hts
                        generalize putE p.h (m : Int) T = PP at *
                        obtain ⟨G, ff⟩ := PP
                        simp only at HP HRP
                        unfold hdV at HP
                        obtain ⟨V, hV⟩ : ∃ V, V = wz.setCell ⟨w.heap.size + 1 + 1 + 1, m, none⟩ (.bool true) := ⟨_, rfl⟩
                        rw [← hV] at HS4 HBX4 ⊢
                        clear hV x0 x1 c0 c1 hts
                        go_cut [14, 15] from 92 to 100 (fun s14 s15 wx => ∃ D : Nat, s14 = .pointer (some ⟨D, 0, none⟩) ∧ s15 = .bool ff ∧ w.heap.size + 4 ≤ D ∧ wx.heap[D]? = some (.cells (hdC G) 30) ∧ wx.heap[B]? = some (.cells #[.int .i64 (i0 : Nat), .int .i64 (j0 : Nat)] 49) ∧ HqS w s L (.slice (some ⟨g, 0, none⟩) L cl) ⟨p.h, fun i => p.c i || decide (i = m)⟩ wx)
                        case first =>
                          go_upto_region 18 with (fail)
                          have N0 := HS4.out.drew
                          have n0 : V.drew.heap[B]? = _ := HBX4.out
                          refine wp_region_held_drew (S := fun V => V.heap[w.heap.size + 1 + 1]? = some (.cells (hdC p.h) 30) ∧ V.heap[B]? = some (.cells #[.int .i64 (i0 : Nat), .int .i64 (j0 : Nat)] 49)) (by kernel_rfl) (⟨N0.hd, n0⟩) (fun hHeld0 => ?_)
                          clear hHeld0
                          generalize V.drew = V0 at *
                          refine wpAnyH_take (i := 0) (v := ?_) rfl (by kernel_rfl) (by kernel_rfl) (by kernel_rfl) (fun _ _ _ h => h) (Or.inl ⟨by kernel_rfl, ?_⟩) (⟨N0.hd, n0⟩) ?_
                          rotate_left
                          · (intro w0 hSw; (try dsimp only at hSw); have z0 : w0.cell? ⟨w.heap.size + 1 + 1, 0, none⟩ = some (.string p.h.name) := (hbox_cell hSw.1 0).1; have z1 : w0.cell? ⟨w.heap.size + 1 + 1, 1, none⟩ = some (.int .i64 p.h.kind) := (hbox_cell hSw.1 1).1; have z2 : w0.cell? ⟨w.heap.size + 1 + 1, 2, none⟩ = some (.int .i64 p.h.dim) := (hbox_cell hSw.1 2).1; have z3 : w0.cell? ⟨w.heap.size + 1 + 1, 3, none⟩ = some (.int .i64 p.h.cap) := (hbox_cell hSw.1 3).1; have z4 : w0.cell? ⟨w.heap.size + 1 + 1, 4, none⟩ = some (.int .i64 p.h.met) := (hbox_cell hSw.1 4).1; have z5 : w0.cell? ⟨w.heap.size + 1 + 1, 5, none⟩ = some (.int .i64 p.h.lay) := (hbox_cell hSw.1 5).1; have y0 : w0.cell? ⟨B, 0, none⟩ = some (.int .i64 (i0 : Nat)) := (hbox_cell hSw.2 0).1; have y1 : w0.cell? ⟨B, 1, none⟩ = some (.int .i64 (j0 : Nat)) := (hbox_cell hSw.2 1).1; go_simp; try with_reducible rfl)
                          try dsimp only [List.getElem_toArray, List.getElem_cons_succ, List.getElem_cons_zero, Act.put]
                          try simp only [List.setIfInBounds_toArray, List.set_cons_zero, List.set_cons_succ]
                          refine wpAnyH_take (i := 1) (v := ?_) rfl (by kernel_rfl) (by kernel_rfl) (by kernel_rfl) (fun _ _ _ h => h) (Or.inl ⟨by kernel_rfl, ?_⟩) (⟨N0.hd, n0⟩) ?_
                          rotate_left
                          · (intro w0 hSw; (try dsimp only at hSw); have z0 : w0.cell? ⟨w.heap.size + 1 + 1, 0, none⟩ = some (.string p.h.name) := (hbox_cell hSw.1 0).1; have z1 : w0.cell? ⟨w.heap.size + 1 + 1, 1, none⟩ = some (.int .i64 p.h.kind) := (hbox_cell hSw.1 1).1; have z2 : w0.cell? ⟨w.heap.size + 1 + 1, 2, none⟩ = some (.int .i64 p.h.dim) := (hbox_cell hSw.1 2).1; have z3 : w0.cell? ⟨w.heap.size + 1 + 1, 3, none⟩ = some (.int .i64 p.h.cap) := (hbox_cell hSw.1 3).1; have z4 : w0.cell? ⟨w.heap.size + 1 + 1, 4, none⟩ = some (.int .i64 p.h.met) := (hbox_cell hSw.1 4).1; have z5 : w0.cell? ⟨w.heap.size + 1 + 1, 5, none⟩ = some (.int .i64 p.h.lay) := (hbox_cell hSw.1 5).1; have y0 : w0.cell? ⟨B, 0, none⟩ = some (.int .i64 (i0 : Nat)) := (hbox_cell hSw.2 0).1; have y1 : w0.cell? ⟨B, 1, none⟩ = some (.int .i64 (j0 : Nat)) := (hbox_cell hSw.2 1).1; go_simp; try with_reducible rfl)
                          try dsimp only [List.getElem_toArray, List.getElem_cons_succ, List.getElem_cons_zero, Act.put]
                          try simp only [List.setIfInBounds_toArray, List.set_cons_zero, List.set_cons_succ]
                          refine wpAnyH_take (i := 2) (v := ?_) rfl (by kernel_rfl) (by kernel_rfl) (by kernel_rfl) (fun _ _ _ h => h) (Or.inl ⟨by kernel_rfl, ?_⟩) (⟨N0.hd, n0⟩) ?_
                          rotate_left
                          · (intro w0 hSw; (try dsimp only at hSw); have z0 : w0.cell? ⟨w.heap.size + 1 + 1, 0, none⟩ = some (.string p.h.name) := (hbox_cell hSw.1 0).1; have z1 : w0.cell? ⟨w.heap.size + 1 + 1, 1, none⟩ = some (.int .i64 p.h.kind) := (hbox_cell hSw.1 1).1; have z2 : w0.cell? ⟨w.heap.size + 1 + 1, 2, none⟩ = some (.int .i64 p.h.dim) := (hbox_cell hSw.1 2).1; have z3 : w0.cell? ⟨w.heap.size + 1 + 1, 3, none⟩ = some (.int .i64 p.h.cap) := (hbox_cell hSw.1 3).1; have z4 : w0.cell? ⟨w.heap.size + 1 + 1, 4, none⟩ = some (.int .i64 p.h.met) := (hbox_cell hSw.1 4).1; have z5 : w0.cell? ⟨w.heap.size + 1 + 1, 5, none⟩ = some (.int .i64 p.h.lay) := (hbox_cell hSw.1 5).1; have y0 : w0.cell? ⟨B, 0, none⟩ = some (.int .i64 (i0 : Nat)) := (hbox_cell hSw.2 0).1; have y1 : w0.cell? ⟨B, 1, none⟩ = some (.int .i64 (j0 : Nat)) := (hbox_cell hSw.2 1).1; go_simp; try with_reducible rfl)
                          try dsimp only [List.getElem_toArray, List.getElem_cons_succ, List.getElem_cons_zero, Act.put]
                          try simp only [List.setIfInBounds_toArray, List.set_cons_zero, List.set_cons_succ]
                          refine wpAnyH_take (i := 3) (v := ?_) rfl (by kernel_rfl) (by kernel_rfl) (by kernel_rfl) (fun _ _ _ h => h) (Or.inl ⟨by kernel_rfl, ?_⟩) (⟨N0.hd, n0⟩) ?_
                          rotate_left
                          · (intro w0 hSw; (try dsimp only at hSw); have z0 : w0.cell? ⟨w.heap.size + 1 + 1, 0, none⟩ = some (.string p.h.name) := (hbox_cell hSw.1 0).1; have z1 : w0.cell? ⟨w.heap.size + 1 + 1, 1, none⟩ = some (.int .i64 p.h.kind) := (hbox_cell hSw.1 1).1; have z2 : w0.cell? ⟨w.heap.size + 1 + 1, 2, none⟩ = some (.int .i64 p.h.dim) := (hbox_cell hSw.1 2).1; have z3 : w0.cell? ⟨w.heap.size + 1 + 1, 3, none⟩ = some (.int .i64 p.h.cap) := (hbox_cell hSw.1 3).1; have z4 : w0.cell? ⟨w.heap.size + 1 + 1, 4, none⟩ = some (.int .i64 p.h.met) := (hbox_cell hSw.1 4).1; have z5 : w0.cell? ⟨w.heap.size + 1 + 1, 5, none⟩ = some (.int .i64 p.h.lay) := (hbox_cell hSw.1 5).1; have y0 : w0.cell? ⟨B, 0, none⟩ = some (.int .i64 (i0 : Nat)) := (hbox_cell hSw.2 0).1; have y1 : w0.cell? ⟨B, 1, none⟩ = some (.int .i64 (j0 : Nat)) := (hbox_cell hSw.2 1).1; go_simp; try with_reducible rfl)
                          try dsimp only [List.getElem_toArray, List.getElem_cons_succ, List.getElem_cons_zero, Act.put]
                          try simp only [List.setIfInBounds_toArray, List.set_cons_zero, List.set_cons_succ]
                          refine wpAnyH_ready (rs := [4, 9]) (by kernel_rfl) (by simp) (AllReadyH.cons rfl (fun KK hKK => ?_) (AllReadyH.cons rfl (fun KK hKK => ?_) AllReadyH.nil))
                          · go_simp
                            go_at_call 17
                            (with_reducible refine (HT.out _).mono ?_)
                            rintro e W1 ⟨rfl, hb⟩
                            have N1 := N0.next hb
                            have n1 := (hb.block _ (Array.getElem?_eq_some_iff.1 n0).1).trans n0
                            clear hb
                            refine hKK.out _ _ (⟨N1.hd, n1⟩) (fun _ => ?_)
                            clear hKK KK
                            try dsimp only [List.getElem_toArray, List.getElem_cons_succ, List.getElem_cons_zero, Act.put]
                            try simp only [List.setIfInBounds_toArray, List.set_cons_zero, List.set_cons_succ]
                            refine wpAnyH_ready (rs := [5, 9]) (by kernel_rfl) (by simp) (AllReadyH.cons rfl (fun KK hKK => ?_) (AllReadyH.cons rfl (fun KK hKK => ?_) AllReadyH.nil))
                            · go_simp
                              go_at_call 16
                              (with_reducible refine (HP.out _).mono ?_)
                              rintro e W2 ⟨rfl, hb⟩
                              have N2 := N1.next hb
                              have n2 := (hb.block _ (Array.getElem?_eq_some_iff.1 n1).1).trans n1
                              clear hb
                              refine hKK.out _ _ (⟨N2.hd, n2⟩) (fun _ => ?_)
                              clear hKK KK
                              try dsimp only [List.getElem_toArray, List.getElem_cons_succ, List.getElem_cons_zero, Act.put]
                              try simp only [List.setIfInBounds_toArray, List.set_cons_zero, List.set_cons_succ]
                              refine wpAnyH_take (i := 6) (v := ?_) rfl (by kernel_rfl) (by kernel_rfl) (by kernel_rfl) (fun _ _ _ h => h) (Or.inl ⟨by kernel_rfl, ?_⟩) (⟨N2.hd, n2⟩) ?_
                              rotate_left
                              · (intro w0 hSw; (try dsimp only at hSw); have z0 : w0.cell? ⟨w.heap.size + 1 + 1, 0, none⟩ = some (.string p.h.name) := (hbox_cell hSw.1 0).1; have z1 : w0.cell? ⟨w.heap.size + 1 + 1, 1, none⟩ = some (.int .i64 p.h.kind) := (hbox_cell hSw.1 1).1; have z2 : w0.cell? ⟨w.heap.size + 1 + 1, 2, none⟩ = some (.int .i64 p.h.dim) := (hbox_cell hSw.1 2).1; have z3 : w0.cell? ⟨w.heap.size + 1 + 1, 3, none⟩ = some (.int .i64 p.h.cap) := (hbox_cell hSw.1 3).1; have z4 : w0.cell? ⟨w.heap.size + 1 + 1, 4, none⟩ = some (.int .i64 p.h.met) := (hbox_cell hSw.1 4).1; have z5 : w0.cell? ⟨w.heap.size + 1 + 1, 5, none⟩ = some (.int .i64 p.h.lay) := (hbox_cell hSw.1 5).1; have y0 : w0.cell? ⟨B, 0, none⟩ = some (.int .i64 (i0 : Nat)) := (hbox_cell hSw.2 0).1; have y1 : w0.cell? ⟨B, 1, none⟩ = some (.int .i64 (j0 : Nat)) := (hbox_cell hSw.2 1).1; go_simp; try with_reducible rfl)
                              try dsimp only [List.getElem_toArray, List.getElem_cons_succ, List.getElem_cons_zero, Act.put]
                              try simp only [List.setIfInBounds_toArray, List.set_cons_zero, List.set_cons_succ]
                              refine wpAnyH_take (i := 7) (v := ?_) rfl (by kernel_rfl) (by kernel_rfl) (by kernel_rfl) (fun _ _ _ h => h) (Or.inl ⟨by kernel_rfl, ?_⟩) (⟨N2.hd, n2⟩) ?_
                              rotate_left
                              · (intro w0 hSw; (try dsimp only at hSw); have z0 : w0.cell? ⟨w.heap.size + 1 + 1, 0, none⟩ = some (.string p.h.name) := (hbox_cell hSw.1 0).1; have z1 : w0.cell? ⟨w.heap.size + 1 + 1, 1, none⟩ = some (.int .i64 p.h.kind) := (hbox_cell hSw.1 1).1; have z2 : w0.cell? ⟨w.heap.size + 1 + 1, 2, none⟩ = some (.int .i64 p.h.dim) := (hbox_cell hSw.1 2).1; have z3 : w0.cell? ⟨w.heap.size + 1 + 1, 3, none⟩ = some (.int .i64 p.h.cap) := (hbox_cell hSw.1 3).1; have z4 : w0.cell? ⟨w.heap.size + 1 + 1, 4, none⟩ = some (.int .i64 p.h.met) := (hbox_cell hSw.1 4).1; have z5 : w0.cell? ⟨w.heap.size + 1 + 1, 5, none⟩ = some (.int .i64 p.h.lay) := (hbox_cell hSw.1 5).1; have y0 : w0.cell? ⟨B, 0, none⟩ = some (.int .i64 (i0 : Nat)) := (hbox_cell hSw.2 0).1; have y1 : w0.cell? ⟨B, 1, none⟩ = some (.int .i64 (j0 : Nat)) := (hbox_cell hSw.2 1).1; go_simp; try with_reducible rfl)
                              try dsimp only [List.getElem_toArray, List.getElem_cons_succ, List.getElem_cons_zero, Act.put]
                              try simp only [List.setIfInBounds_toArray, List.set_cons_zero, List.set_cons_succ]
                              refine wpAnyH_take (i := 8) (v := ?_) rfl (by kernel_rfl) (by kernel_rfl) (by kernel_rfl) (fun _ _ _ h => h) (Or.inl ⟨by kernel_rfl, ?_⟩) (⟨N2.hd, n2⟩) ?_
                              rotate_left
                              · (intro w0 hSw; (try dsimp only at hSw); have z0 : w0.cell? ⟨w.heap.size + 1 + 1, 0, none⟩ = some (.string p.h.name) := (hbox_cell hSw.1 0).1; have z1 : w0.cell? ⟨w.heap.size + 1 + 1, 1, none⟩ = some (.int .i64 p.h.kind) := (hbox_cell hSw.1 1).1; have z2 : w0.cell? ⟨w.heap.size + 1 + 1, 2, none⟩ = some (.int .i64 p.h.dim) := (hbox_cell hSw.1 2).1; have z3 : w0.cell? ⟨w.heap.size + 1 + 1, 3, none⟩ = some (.int .i64 p.h.cap) := (hbox_cell hSw.1 3).1; have z4 : w0.cell? ⟨w.heap.size + 1 + 1, 4, none⟩ = some (.int .i64 p.h.met) := (hbox_cell hSw.1 4).1; have z5 : w0.cell? ⟨w.heap.size + 1 + 1, 5, none⟩ = some (.int .i64 p.h.lay) := (hbox_cell hSw.1 5).1; have y0 : w0.cell? ⟨B, 0, none⟩ = some (.int .i64 (i0 : Nat)) := (hbox_cell hSw.2 0).1; have y1 : w0.cell? ⟨B, 1, none⟩ = some (.int .i64 (j0 : Nat)) := (hbox_cell hSw.2 1).1; go_simp; try with_reducible rfl)
                              try dsimp only [List.getElem_toArray, List.getElem_cons_succ, List.getElem_cons_zero, Act.put]
                              try simp only [List.setIfInBounds_toArray, List.set_cons_zero, List.set_cons_succ]
                              refine wpAnyH_ready (rs := [9]) (by kernel_rfl) (by simp) (AllReadyH.cons rfl (fun KK hKK => ?_) AllReadyH.nil)
                              go_simp
                              have hb := below_one_h W2 (.cells #[.string ⟨#[]⟩, .int .i64 0, .int .i64 0, .int .i64 0, .int .i64 0, .int .i64 0] 30)
                              have nd : (W2.alloc (.cells #[.string ⟨#[]⟩, .int .i64 0, .int .i64 0, .int .i64 0, .int .i64 0, .int .i64 0] 30)).heap[W2.heap.size]? = some (.cells #[.string ⟨#[]⟩, .int .i64 0, .int .i64 0, .int .i64 0, .int .i64 0, .int .i64 0] 30) := World.alloc_heap_new _ _
                              have hDs : w.heap.size + 4 ≤ W2.heap.size := N2.lt
                              have hDl : W2.heap.size < (W2.alloc (.cells #[.string ⟨#[]⟩, .int .i64 0, .int .i64 0, .int .i64 0, .int .i64 0, .int .i64 0] 30)).heap.size := by simp
                              have N3 := N2.next hb
                              have n3 := (hb.block _ (Array.getElem?_eq_some_iff.1 n2).1).trans n2
                              obtain ⟨D, hD⟩ : ∃ D, W2.heap.size = D := ⟨_, rfl⟩
                              rw [hD] at nd hDs hDl ⊢
                              clear hb
                              generalize W2.alloc (.cells #[.string ⟨#[]⟩, .int .i64 0, .int .i64 0, .int .i64 0, .int .i64 0, .int .i64 0] 30) = W3 at *
                              clear hD
                              refine hKK.out _ _ (⟨N3.hd, n3⟩) (fun _ => ?_)
                              clear hKK KK
                              try dsimp only [List.getElem_toArray, List.getElem_cons_succ, List.getElem_cons_zero, Act.put]
                              try simp only [List.setIfInBounds_toArray, List.set_cons_zero, List.set_cons_succ]
                              refine wpAnyH_ready (rs := [10]) (by kernel_rfl) (by simp) (AllReadyH.cons rfl (fun KK hKK => ?_) AllReadyH.nil)
                              go_simp
                              obtain ⟨d0, e0⟩ := hbox_cell nd 0
                              obtain ⟨d1, e1⟩ := hbox_cell nd 1
                              obtain ⟨d2, e2⟩ := hbox_cell nd 2
                              obtain ⟨d3, e3⟩ := hbox_cell nd 3
                              obtain ⟨d4, e4⟩ := hbox_cell nd 4
                              obtain ⟨d5, e5⟩ := hbox_cell nd 5
                              simp only [List.getElem?_toArray, List.getElem?_cons_zero, List.getElem?_cons_succ] at d0 d1 d2 d3 d4 d5
                              try go_simp
                              have hBD : B ≠ D := fun e => by subst e; rw [n3] at nd; injection (Option.some.inj nd) with _ e2; cases e2
                              have N8 := N3.six hDs (.string G.name) (.int .i64 G.kind) (.int .i64 G.dim) (.int .i64 G.cap) (.int .i64 G.met) (.int .i64 G.lay) nd
                              have n8 := (six_other (W := W3) (B := D) (k := B) (v0 := .string G.name) (v1 := .int .i64 G.kind) (v2 := .int .i64 G.dim) (v3 := .int .i64 G.cap) (v4 := .int .i64 G.met) (v5 := .int .i64 G.lay) hBD).trans n3
                              have nd8 := six_own (v0 := .string G.name) (v1 := .int .i64 G.kind) (v2 := .int .i64 G.dim) (v3 := .int .i64 G.cap) (v4 := .int .i64 G.met) (v5 := .int .i64 G.lay) nd
                              refine hKK.out _ _ (⟨N8.hd, n8⟩) (fun _ => ?_)
                              clear hKK KK
                              try dsimp only [List.getElem_toArray, List.getElem_cons_succ, List.getElem_cons_zero, Act.put]
                              try simp only [List.setIfInBounds_toArray, List.set_cons_zero, List.set_cons_succ]
                              refine wpAnyH_take (i := 11) (v := ?_) rfl (by kernel_rfl) (by kernel_rfl) (by kernel_rfl) (fun _ _ _ h => h) (Or.inl ⟨by kernel_rfl, ?_⟩) (⟨N8.hd, n8⟩) ?_
                              rotate_left
                              · (intro w0 hSw; (try dsimp only at hSw); have z0 : w0.cell? ⟨w.heap.size + 1 + 1, 0, none⟩ = some (.string p.h.name) := (hbox_cell hSw.1 0).1; have z1 : w0.cell? ⟨w.heap.size + 1 + 1, 1, none⟩ = some (.int .i64 p.h.kind) := (hbox_cell hSw.1 1).1; have z2 : w0.cell? ⟨w.heap.size + 1 + 1, 2, none⟩ = some (.int .i64 p.h.dim) := (hbox_cell hSw.1 2).1; have z3 : w0.cell? ⟨w.heap.size + 1 + 1, 3, none⟩ = some (.int .i64 p.h.cap) := (hbox_cell hSw.1 3).1; have z4 : w0.cell? ⟨w.heap.size + 1 + 1, 4, none⟩ = some (.int .i64 p.h.met) := (hbox_cell hSw.1 4).1; have z5 : w0.cell? ⟨w.heap.size + 1 + 1, 5, none⟩ = some (.int .i64 p.h.lay) := (hbox_cell hSw.1 5).1; have y0 : w0.cell? ⟨B, 0, none⟩ = some (.int .i64 (i0 : Nat)) := (hbox_cell hSw.2 0).1; have y1 : w0.cell? ⟨B, 1, none⟩ = some (.int .i64 (j0 : Nat)) := (hbox_cell hSw.2 1).1; go_simp; try with_reducible rfl)
                              try dsimp only [List.getElem_toArray, List.getElem_cons_succ, List.getElem_cons_zero, Act.put]
                              try simp only [List.setIfInBounds_toArray, List.set_cons_zero, List.set_cons_succ]
                              refine wpAnyH_done (by kernel_rfl) ?_ _
                              try dsimp only [List.getElem_toArray, List.getElem_cons_succ, List.getElem_cons_zero, Act.put]
                              try simp only [List.setIfInBounds_toArray, List.set_cons_zero, List.set_cons_succ]
                              go_wp2
                              go_meet
                              exact ⟨D, rfl, rfl, hDs, nd8, n8, N8⟩
                            · go_simp
                              have hb := below_one_h W1 (.cells #[.string ⟨#[]⟩, .int .i64 0, .int .i64 0, .int .i64 0, .int .i64 0, .int .i64 0] 30)
                              have nd : (W1.alloc (.cells #[.string ⟨#[]⟩, .int .i64 0, .int .i64 0, .int .i64 0, .int .i64 0, .int .i64 0] 30)).heap[W1.heap.size]? = some (.cells #[.string ⟨#[]⟩, .int .i64 0, .int .i64 0, .int .i64 0, .int .i64 0, .int .i64 0] 30) := World.alloc_heap_new _ _
                              have hDs : w.heap.size + 4 ≤ W1.heap.size := N1.lt
                              have hDl : W1.heap.size < (W1.alloc (.cells #[.string ⟨#[]⟩, .int .i64 0, .int .i64 0, .int .i64 0, .int .i64 0, .int .i64 0] 30)).heap.size := by simp
                              have N4 := N1.next hb
                              have n4 := (hb.block _ (Array.getElem?_eq_some_iff.1 n1).1).trans n1
                              obtain ⟨D, hD⟩ : ∃ D, W1.heap.size = D := ⟨_, rfl⟩
                              rw [hD] at nd hDs hDl ⊢
                              clear hb
                              generalize W1.alloc (.cells #[.string ⟨#[]⟩, .int .i64 0, .int .i64 0, .int .i64 0, .int .i64 0, .int .i64 0] 30) = W4 at *
                              clear hD
                              refine hKK.out _ _ (⟨N4.hd, n4⟩) (fun _ => ?_)
                              clear hKK KK
                              try dsimp only [List.getElem_toArray, List.getElem_cons_succ, List.getElem_cons_zero, Act.put]
                              try simp only [List.setIfInBounds_toArray, List.set_cons_zero, List.set_cons_succ]
                              refine wpAnyH_ready (rs := [5]) (by kernel_rfl) (by simp) (AllReadyH.cons rfl (fun KK hKK => ?_) AllReadyH.nil)
                              go_simp
                              go_at_call 16
                              (with_reducible refine (HP.out _).mono ?_)
                              rintro e W5 ⟨rfl, hb⟩
                              have N5 := N4.next hb
                              have n5 := (hb.block _ (Array.getElem?_eq_some_iff.1 n4).1).trans n4
                              replace nd := (hb.block _ hDl).trans nd
                              replace hDl := Nat.lt_of_lt_of_le hDl hb.size
                              clear hb
                              refine hKK.out _ _ (⟨N5.hd, n5⟩) (fun _ => ?_)
                              clear hKK KK
                              try dsimp only [List.getElem_toArray, List.getElem_cons_succ, List.getElem_cons_zero, Act.put]
                              try simp only [List.setIfInBounds_toArray, List.set_cons_zero, List.set_cons_succ]
                              refine wpAnyH_take (i := 6) (v := ?_) rfl (by kernel_rfl) (by kernel_rfl) (by kernel_rfl) (fun _ _ _ h => h) (Or.inl ⟨by kernel_rfl, ?_⟩) (⟨N5.hd, n5⟩) ?_
                              rotate_left
                              · (intro w0 hSw; (try dsimp only at hSw); have z0 : w0.cell? ⟨w.heap.size + 1 + 1, 0, none⟩ = some (.string p.h.name) := (hbox_cell hSw.1 0).1; have z1 : w0.cell? ⟨w.heap.size + 1 + 1, 1, none⟩ = some (.int .i64 p.h.kind) := (hbox_cell hSw.1 1).1; have z2 : w0.cell? ⟨w.heap.size + 1 + 1, 2, none⟩ = some (.int .i64 p.h.dim) := (hbox_cell hSw.1 2).1; have z3 : w0.cell? ⟨w.heap.size + 1 + 1, 3, none⟩ = some (.int .i64 p.h.cap) := (hbox_cell hSw.1 3).1; have z4 : w0.cell? ⟨w.heap.size + 1 + 1, 4, none⟩ = some (.int .i64 p.h.met) := (hbox_cell hSw.1 4).1; have z5 : w0.cell? ⟨w.heap.size + 1 + 1, 5, none⟩ = some (.int .i64 p.h.lay) := (hbox_cell hSw.1 5).1; have y0 : w0.cell? ⟨B, 0, none⟩ = some (.int .i64 (i0 : Nat)) := (hbox_cell hSw.2 0).1; have y1 : w0.cell? ⟨B, 1, none⟩ = some (.int .i64 (j0 : Nat)) := (hbox_cell hSw.2 1).1; go_simp; try with_reducible rfl)
                              try dsimp only [List.getElem_toArray, List.getElem_cons_succ, List.getElem_cons_zero, Act.put]
                              try simp only [List.setIfInBounds_toArray, List.set_cons_zero, List.set_cons_succ]
                              refine wpAnyH_take (i := 7) (v := ?_) rfl (by kernel_rfl) (by kernel_rfl) (by kernel_rfl) (fun _ _ _ h => h) (Or.inl ⟨by kernel_rfl, ?_⟩) (⟨N5.hd, n5⟩) ?_
                              rotate_left
                              · (intro w0 hSw; (try dsimp only at hSw); have z0 : w0.cell? ⟨w.heap.size + 1 + 1, 0, none⟩ = some (.string p.h.name) := (hbox_cell hSw.1 0).1; have z1 : w0.cell? ⟨w.heap.size + 1 + 1, 1, none⟩ = some (.int .i64 p.h.kind) := (hbox_cell hSw.1 1).1; have z2 : w0.cell? ⟨w.heap.size + 1 + 1, 2, none⟩ = some (.int .i64 p.h.dim) := (hbox_cell hSw.1 2).1; have z3 : w0.cell? ⟨w.heap.size + 1 + 1, 3, none⟩ = some (.int .i64 p.h.cap) := (hbox_cell hSw.1 3).1; have z4 : w0.cell? ⟨w.heap.size + 1 + 1, 4, none⟩ = some (.int .i64 p.h.met) := (hbox_cell hSw.1 4).1; have z5 : w0.cell? ⟨w.heap.size + 1 + 1, 5, none⟩ = some (.int .i64 p.h.lay) := (hbox_cell hSw.1 5).1; have y0 : w0.cell? ⟨B, 0, none⟩ = some (.int .i64 (i0 : Nat)) := (hbox_cell hSw.2 0).1; have y1 : w0.cell? ⟨B, 1, none⟩ = some (.int .i64 (j0 : Nat)) := (hbox_cell hSw.2 1).1; go_simp; try with_reducible rfl)
                              try dsimp only [List.getElem_toArray, List.getElem_cons_succ, List.getElem_cons_zero, Act.put]
                              try simp only [List.setIfInBounds_toArray, List.set_cons_zero, List.set_cons_succ]
                              refine wpAnyH_take (i := 8) (v := ?_) rfl (by kernel_rfl) (by kernel_rfl) (by kernel_rfl) (fun _ _ _ h => h) (Or.inl ⟨by kernel_rfl, ?_⟩) (⟨N5.hd, n5⟩) ?_
                              rotate_left
                              · (intro w0 hSw; (try dsimp only at hSw); have z0 : w0.cell? ⟨w.heap.size + 1 + 1, 0, none⟩ = some (.string p.h.name) := (hbox_cell hSw.1 0).1; have z1 : w0.cell? ⟨w.heap.size + 1 + 1, 1, none⟩ = some (.int .i64 p.h.kind) := (hbox_cell hSw.1 1).1; have z2 : w0.cell? ⟨w.heap.size + 1 + 1, 2, none⟩ = some (.int .i64 p.h.dim) := (hbox_cell hSw.1 2).1; have z3 : w0.cell? ⟨w.heap.size + 1 + 1, 3, none⟩ = some (.int .i64 p.h.cap) := (hbox_cell hSw.1 3).1; have z4 : w0.cell? ⟨w.heap.size + 1 + 1, 4, none⟩ = some (.int .i64 p.h.met) := (hbox_cell hSw.1 4).1; have z5 : w0.cell? ⟨w.heap.size + 1 + 1, 5, none⟩ = some (.int .i64 p.h.lay) := (hbox_cell hSw.1 5).1; have y0 : w0.cell? ⟨B, 0, none⟩ = some (.int .i64 (i0 : Nat)) := (hbox_cell hSw.2 0).1; have y1 : w0.cell? ⟨B, 1, none⟩ = some (.int .i64 (j0 : Nat)) := (hbox_cell hSw.2 1).1; go_simp; try with_reducible rfl)
                              try dsimp only [List.getElem_toArray, List.getElem_cons_succ, List.getElem_cons_zero, Act.put]
                              try simp only [List.setIfInBounds_toArray, List.set_cons_zero, List.set_cons_succ]
                              refine wpAnyH_ready (rs := [10]) (by kernel_rfl) (by simp) (AllReadyH.cons rfl (fun KK hKK => ?_) AllReadyH.nil)
                              go_simp
                              obtain ⟨d0, e0⟩ := hbox_cell nd 0
                              obtain ⟨d1, e1⟩ := hbox_cell nd 1
                              obtain ⟨d2, e2⟩ := hbox_cell nd 2
                              obtain ⟨d3, e3⟩ := hbox_cell nd 3
                              obtain ⟨d4, e4⟩ := hbox_cell nd 4
                              obtain ⟨d5, e5⟩ := hbox_cell nd 5
                              simp only [List.getElem?_toArray, List.getElem?_cons_zero, List.getElem?_cons_succ] at d0 d1 d2 d3 d4 d5
                              try go_simp
                              have hBD : B ≠ D := fun e => by subst e; rw [n5] at nd; injection (Option.some.inj nd) with _ e2; cases e2
                              have N8 := N5.six hDs (.string G.name) (.int .i64 G.kind) (.int .i64 G.dim) (.int .i64 G.cap) (.int .i64 G.met) (.int .i64 G.lay) nd
                              have n8 := (six_other (W := W5) (B := D) (k := B) (v0 := .string G.name) (v1 := .int .i64 G.kind) (v2 := .int .i64 G.dim) (v3 := .int .i64 G.cap) (v4 := .int .i64 G.met) (v5 := .int .i64 G.lay) hBD).trans n5
                              have nd8 := six_own (v0 := .string G.name) (v1 := .int .i64 G.kind) (v2 := .int .i64 G.dim) (v3 := .int .i64 G.cap) (v4 := .int .i64 G.met) (v5 := .int .i64 G.lay) nd
                              refine hKK.out _ _ (⟨N8.hd, n8⟩) (fun _ => ?_)
                              clear hKK KK
                              try dsimp only [List.getElem_toArray, List.getElem_cons_succ, List.getElem_cons_zero, Act.put]
                              try simp only [List.setIfInBounds_toArray, List.set_cons_zero, List.set_cons_succ]
                              refine wpAnyH_take (i := 11) (v := ?_) rfl (by kernel_rfl) (by kernel_rfl) (by kernel_rfl) (fun _ _ _ h => h) (Or.inl ⟨by kernel_rfl, ?_⟩) (⟨N8.hd, n8⟩) ?_
                              rotate_left
                              · (intro w0 hSw; (try dsimp only at hSw); have z0 : w0.cell? ⟨w.heap.size + 1 + 1, 0, none⟩ = some (.string p.h.name) := (hbox_cell hSw.1 0).1; have z1 : w0.cell? ⟨w.heap.size + 1 + 1, 1, none⟩ = some (.int .i64 p.h.kind) := (hbox_cell hSw.1 1).1; have z2 : w0.cell? ⟨w.heap.size + 1 + 1, 2, none⟩ = some (.int .i64 p.h.dim) := (hbox_cell hSw.1 2).1; have z3 : w0.cell? ⟨w.heap.size + 1 + 1, 3, none⟩ = some (.int .i64 p.h.cap) := (hbox_cell hSw.1 3).1; have z4 : w0.cell? ⟨w.heap.size + 1 + 1, 4, none⟩ = some (.int .i64 p.h.met) := (hbox_cell hSw.1 4).1; have z5 : w0.cell? ⟨w.heap.size + 1 + 1, 5, none⟩ = some (.int .i64 p.h.lay) := (hbox_cell hSw.1 5).1; have y0 : w0.cell? ⟨B, 0, none⟩ = some (.int .i64 (i0 : Nat)) := (hbox_cell hSw.2 0).1; have y1 : w0.cell? ⟨B, 1, none⟩ = some (.int .i64 (j0 : Nat)) := (hbox_cell hSw.2 1).1; go_simp; try with_reducible rfl)
                              try dsimp only [List.getElem_toArray, List.getElem_cons_succ, List.getElem_cons_zero, Act.put]
                              try simp only [List.setIfInBounds_toArray, List.set_cons_zero, List.set_cons_succ]
                              refine wpAnyH_done (by kernel_rfl) ?_ _
                              try dsimp only [List.getElem_toArray, List.getElem_cons_succ, List.getElem_cons_zero, Act.put]
                              try simp only [List.setIfInBounds_toArray, List.set_cons_zero, List.set_cons_succ]
                              go_wp2
                              go_meet
                              exact ⟨D, rfl, rfl, hDs, nd8, n8, N8⟩
                          · go_simp
                            have hb := below_one_h V0 (.cells #[.string ⟨#[]⟩, .int .i64 0, .int .i64 0, .int .i64 0, .int .i64 0, .int .i64 0] 30)
                            have nd : (V0.alloc (.cells #[.string ⟨#[]⟩, .int .i64 0, .int .i64 0, .int .i64 0, .int .i64 0, .int .i64 0] 30)).heap[V0.heap.size]? = some (.cells #[.string ⟨#[]⟩, .int .i64 0, .int .i64 0, .int .i64 0, .int .i64 0, .int .i64 0] 30) := World.alloc_heap_new _ _
                            have hDs : w.heap.size + 4 ≤ V0.heap.size := N0.lt
                            have hDl : V0.heap.size < (V0.alloc (.cells #[.string ⟨#[]⟩, .int .i64 0, .int .i64 0, .int .i64 0, .int .i64 0, .int .i64 0] 30)).heap.size := by simp
                            have N6 := N0.next hb
                            have n6 := (hb.block _ (Array.getElem?_eq_some_iff.1 n0).1).trans n0
                            obtain ⟨D, hD⟩ : ∃ D, V0.heap.size = D := ⟨_, rfl⟩
                            rw [hD] at nd hDs hDl ⊢
                            clear hb
                            generalize V0.alloc (.cells #[.string ⟨#[]⟩, .int .i64 0, .int .i64 0, .int .i64 0, .int .i64 0, .int .i64 0] 30) = W6 at *
                            clear hD
                            refine hKK.out _ _ (⟨N6.hd, n6⟩) (fun _ => ?_)
                            clear hKK KK
                            try dsimp only [List.getElem_toArray, List.getElem_cons_succ, List.getElem_cons_zero, Act.put]
                            try simp only [List.setIfInBounds_toArray, List.set_cons_zero, List.set_cons_succ]
                            refine wpAnyH_ready (rs := [4]) (by kernel_rfl) (by simp) (AllReadyH.cons rfl (fun KK hKK => ?_) AllReadyH.nil)
                            go_simp
                            go_at_call 17
                            (with_reducible refine (HT.out _).mono ?_)
                            rintro e W7 ⟨rfl, hb⟩
                            have N7 := N6.next hb
                            have n7 := (hb.block _ (Array.getElem?_eq_some_iff.1 n6).1).trans n6
                            replace nd := (hb.block _ hDl).trans nd
                            replace hDl := Nat.lt_of_lt_of_le hDl hb.size
                            clear hb
                            refine hKK.out _ _ (⟨N7.hd, n7⟩) (fun _ => ?_)
                            clear hKK KK
                            try dsimp only [List.getElem_toArray, List.getElem_cons_succ, List.getElem_cons_zero, Act.put]
                            try simp only [List.setIfInBounds_toArray, List.set_cons_zero, List.set_cons_succ]
                            refine wpAnyH_ready (rs := [5]) (by kernel_rfl) (by simp) (AllReadyH.cons rfl (fun KK hKK => ?_) AllReadyH.nil)
                            go_simp
                            go_at_call 16
                            (with_reducible refine (HP.out _).mono ?_)
                            rintro e W8 ⟨rfl, hb⟩
                            have N8 := N7.next hb
                            have n8 := (hb.block _ (Array.getElem?_eq_some_iff.1 n7).1).trans n7
                            replace nd := (hb.block _ hDl).trans nd
                            replace hDl := Nat.lt_of_lt_of_le hDl hb.size
                            clear hb
                            refine hKK.out _ _ (⟨N8.hd, n8⟩) (fun _ => ?_)
                            clear hKK KK
                            try dsimp only [List.getElem_toArray, List.getElem_cons_succ, List.getElem_cons_zero, Act.put]
                            try simp only [List.setIfInBounds_toArray, List.set_cons_zero, List.set_cons_succ]
                            refine wpAnyH_take (i := 6) (v := ?_) rfl (by kernel_rfl) (by kernel_rfl) (by kernel_rfl) (fun _ _ _ h => h) (Or.inl ⟨by kernel_rfl, ?_⟩) (⟨N8.hd, n8⟩) ?_
                            rotate_left
                            · (intro w0 hSw; (try dsimp only at hSw); have z0 : w0.cell? ⟨w.heap.size + 1 + 1, 0, none⟩ = some (.string p.h.name) := (hbox_cell hSw.1 0).1; have z1 : w0.cell? ⟨w.heap.size + 1 + 1, 1, none⟩ = some (.int .i64 p.h.kind) := (hbox_cell hSw.1 1).1; have z2 : w0.cell? ⟨w.heap.size + 1 + 1, 2, none⟩ = some (.int .i64 p.h.dim) := (hbox_cell hSw.1 2).1; have z3 : w0.cell? ⟨w.heap.size + 1 + 1, 3, none⟩ = some (.int .i64 p.h.cap) := (hbox_cell hSw.1 3).1; have z4 : w0.cell? ⟨w.heap.size + 1 + 1, 4, none⟩ = some (.int .i64 p.h.met) := (hbox_cell hSw.1 4).1; have z5 : w0.cell? ⟨w.heap.size + 1 + 1, 5, none⟩ = some (.int .i64 p.h.lay) := (hbox_cell hSw.1 5).1; have y0 : w0.cell? ⟨B, 0, none⟩ = some (.int .i64 (i0 : Nat)) := (hbox_cell hSw.2 0).1; have y1 : w0.cell? ⟨B, 1, none⟩ = some (.int .i64 (j0 : Nat)) := (hbox_cell hSw.2 1).1; go_simp; try with_reducible rfl)
                            try dsimp only [List.getElem_toArray, List.getElem_cons_succ, List.getElem_cons_zero, Act.put]
                            try simp only [List.setIfInBounds_toArray, List.set_cons_zero, List.set_cons_succ]
                            refine wpAnyH_take (i := 7) (v := ?_) rfl (by kernel_rfl) (by kernel_rfl) (by kernel_rfl) (fun _ _ _ h => h) (Or.inl ⟨by kernel_rfl, ?_⟩) (⟨N8.hd, n8⟩) ?_
                            rotate_left
                            · (intro w0 hSw; (try dsimp only at hSw); have z0 : w0.cell? ⟨w.heap.size + 1 + 1, 0, none⟩ = some (.string p.h.name) := (hbox_cell hSw.1 0).1; have z1 : w0.cell? ⟨w.heap.size + 1 + 1, 1, none⟩ = some (.int .i64 p.h.kind) := (hbox_cell hSw.1 1).1; have z2 : w0.cell? ⟨w.heap.size + 1 + 1, 2, none⟩ = some (.int .i64 p.h.dim) := (hbox_cell hSw.1 2).1; have z3 : w0.cell? ⟨w.heap.size + 1 + 1, 3, none⟩ = some (.int .i64 p.h.cap) := (hbox_cell hSw.1 3).1; have z4 : w0.cell? ⟨w.heap.size + 1 + 1, 4, none⟩ = some (.int .i64 p.h.met) := (hbox_cell hSw.1 4).1; have z5 : w0.cell? ⟨w.heap.size + 1 + 1, 5, none⟩ = some (.int .i64 p.h.lay) := (hbox_cell hSw.1 5).1; have y0 : w0.cell? ⟨B, 0, none⟩ = some (.int .i64 (i0 : Nat)) := (hbox_cell hSw.2 0).1; have y1 : w0.cell? ⟨B, 1, none⟩ = some (.int .i64 (j0 : Nat)) := (hbox_cell hSw.2 1).1; go_simp; try with_reducible rfl)
                            try dsimp only [List.getElem_toArray, List.getElem_cons_succ, List.getElem_cons_zero, Act.put]
                            try simp only [List.setIfInBounds_toArray, List.set_cons_zero, List.set_cons_succ]
                            refine wpAnyH_take (i := 8) (v := ?_) rfl (by kernel_rfl) (by kernel_rfl) (by kernel_rfl) (fun _ _ _ h => h) (Or.inl ⟨by kernel_rfl, ?_⟩) (⟨N8.hd, n8⟩) ?_
                            rotate_left
                            · (intro w0 hSw; (try dsimp only at hSw); have z0 : w0.cell? ⟨w.heap.size + 1 + 1, 0, none⟩ = some (.string p.h.name) := (hbox_cell hSw.1 0).1; have z1 : w0.cell? ⟨w.heap.size + 1 + 1, 1, none⟩ = some (.int .i64 p.h.kind) := (hbox_cell hSw.1 1).1; have z2 : w0.cell? ⟨w.heap.size + 1 + 1, 2, none⟩ = some (.int .i64 p.h.dim) := (hbox_cell hSw.1 2).1; have z3 : w0.cell? ⟨w.heap.size + 1 + 1, 3, none⟩ = some (.int .i64 p.h.cap) := (hbox_cell hSw.1 3).1; have z4 : w0.cell? ⟨w.heap.size + 1 + 1, 4, none⟩ = some (.int .i64 p.h.met) := (hbox_cell hSw.1 4).1; have z5 : w0.cell? ⟨w.heap.size + 1 + 1, 5, none⟩ = some (.int .i64 p.h.lay) := (hbox_cell hSw.1 5).1; have y0 : w0.cell? ⟨B, 0, none⟩ = some (.int .i64 (i0 : Nat)) := (hbox_cell hSw.2 0).1; have y1 : w0.cell? ⟨B, 1, none⟩ = some (.int .i64 (j0 : Nat)) := (hbox_cell hSw.2 1).1; go_simp; try with_reducible rfl)
                            try dsimp only [List.getElem_toArray, List.getElem_cons_succ, List.getElem_cons_zero, Act.put]
                            try simp only [List.setIfInBounds_toArray, List.set_cons_zero, List.set_cons_succ]
                            refine wpAnyH_ready (rs := [10]) (by kernel_rfl) (by simp) (AllReadyH.cons rfl (fun KK hKK => ?_) AllReadyH.nil)
                            go_simp
                            obtain ⟨d0, e0⟩ := hbox_cell nd 0
                            obtain ⟨d1, e1⟩ := hbox_cell nd 1
                            obtain ⟨d2, e2⟩ := hbox_cell nd 2
                            obtain ⟨d3, e3⟩ := hbox_cell nd 3
                            obtain ⟨d4, e4⟩ := hbox_cell nd 4
                            obtain ⟨d5, e5⟩ := hbox_cell nd 5
                            simp only [List.getElem?_toArray, List.getElem?_cons_zero, List.getElem?_cons_succ] at d0 d1 d2 d3 d4 d5
                            try go_simp
                            have hBD : B ≠ D := fun e => by subst e; rw [n8] at nd; injection (Option.some.inj nd) with _ e2; cases e2
                            have N8 := N8.six hDs (.string G.name) (.int .i64 G.kind) (.int .i64 G.dim) (.int .i64 G.cap) (.int .i64 G.met) (.int .i64 G.lay) nd
                            have n8 := (six_other (W := W8) (B := D) (k := B) (v0 := .string G.name) (v1 := .int .i64 G.kind) (v2 := .int .i64 G.dim) (v3 := .int .i64 G.cap) (v4 := .int .i64 G.met) (v5 := .int .i64 G.lay) hBD).trans n8
                            have nd8 := six_own (v0 := .string G.name) (v1 := .int .i64 G.kind) (v2 := .int .i64 G.dim) (v3 := .int .i64 G.cap) (v4 := .int .i64 G.met) (v5 := .int .i64 G.lay) nd
                            refine hKK.out _ _ (⟨N8.hd, n8⟩) (fun _ => ?_)
                            clear hKK KK
                            try dsimp only [List.getElem_toArray, List.getElem_cons_succ, List.getElem_cons_zero, Act.put]
                            try simp only [List.setIfInBounds_toArray, List.set_cons_zero, List.set_cons_succ]
                            refine wpAnyH_take (i := 11) (v := ?_) rfl (by kernel_rfl) (by kernel_rfl) (by kernel_rfl) (fun _ _ _ h => h) (Or.inl ⟨by kernel_rfl, ?_⟩) (⟨N8.hd, n8⟩) ?_
                            rotate_left
                            · (intro w0 hSw; (try dsimp only at hSw); have z0 : w0.cell? ⟨w.heap.size + 1 + 1, 0, none⟩ = some (.string p.h.name) := (hbox_cell hSw.1 0).1; have z1 : w0.cell? ⟨w.heap.size + 1 + 1, 1, none⟩ = some (.int .i64 p.h.kind) := (hbox_cell hSw.1 1).1; have z2 : w0.cell? ⟨w.heap.size + 1 + 1, 2, none⟩ = some (.int .i64 p.h.dim) := (hbox_cell hSw.1 2).1; have z3 : w0.cell? ⟨w.heap.size + 1 + 1, 3, none⟩ = some (.int .i64 p.h.cap) := (hbox_cell hSw.1 3).1; have z4 : w0.cell? ⟨w.heap.size + 1 + 1, 4, none⟩ = some (.int .i64 p.h.met) := (hbox_cell hSw.1 4).1; have z5 : w0.cell? ⟨w.heap.size + 1 + 1, 5, none⟩ = some (.int .i64 p.h.lay) := (hbox_cell hSw.1 5).1; have y0 : w0.cell? ⟨B, 0, none⟩ = some (.int .i64 (i0 : Nat)) := (hbox_cell hSw.2 0).1; have y1 : w0.cell? ⟨B, 1, none⟩ = some (.int .i64 (j0 : Nat)) := (hbox_cell hSw.2 1).1; go_simp; try with_reducible rfl)
                            try dsimp only [List.getElem_toArray, List.getElem_cons_succ, List.getElem_cons_zero, Act.put]
                            try simp only [List.setIfInBounds_toArray, List.set_cons_zero, List.set_cons_succ]
                            refine wpAnyH_done (by kernel_rfl) ?_ _
                            try dsimp only [List.getElem_toArray, List.getElem_cons_succ, List.getElem_cons_zero, Act.put]
                            try simp only [List.setIfInBounds_toArray, List.set_cons_zero, List.set_cons_succ]
                            go_wp2
                            go_meet
                            exact ⟨D, rfl, rfl, hDs, nd8, n8, N8⟩
                        case rest =>
                          obtain ⟨D, rfl, rfl, hD, hDX, hBX5, hS5⟩ := hcut
                          have HS5 := Lib.hid hS5
                          cases ff with
                          | false =>
                            have HR9 := Lib.hid (HRB.out i0 141 (by rw [HRP.out]; first | (simp; done) | (simp; omega)))
                            have y0 : wc.cell? ⟨B, 0, none⟩ = some (.int .i64 (i0 : Nat)) := (hbox_cell hBX5 0).1
                            have hb1 : B ≠ w.heap.size := by have := HX4.out; omega
                            go_upto_region 20 with (fail)
                            have HB9 := Lib.hid HS5.out.below
                            obtain ⟨⟨r0, r1, r2, r3, r4, r5⟩, ⟨q0, q1⟩, fr, fq⟩ := HS5.out.resat
                            have f0 := fr 0; have f1 := fr 1; have f2 := fr 2; have f3 := fr 3; have f4 := fr 4; have f5 := fr 5; have g0 := fq 0; have g1 := fq 1
                            clear fr fq
                            have hsz9 : w.heap.size + 4 ≤ _ := HS5.out.lt
                            have hgb := (HS5.out.lines.lt g rfl).1
                            have hg1 : g ≠ w.heap.size := by omega
                            have hg2 : ¬ w.heap.size = g := by omega
                            go_region
                            go_wp2
                            refine bodyPost_ret (v := .tuple #[hdV hd0, .int .i64 0, .agg #[.int .i64 (i0 : Nat), .int .i64 141]]) (by simp [results, Tryz.results6, go_sem, hdV, hd0, r0, r1, r2, r3, r4, r5, q0, q1]) rfl ⟨by rw [HR9.out]; rfl, ?_⟩
                            exact below_drew_h (((six_below HB9.out (Nat.le_refl _)).setCell (by simp) _).setCell (by simp) _)
                          | true =>
                            have HR9 := Lib.hid (HRG.out ⟨G, fun i => p.c i || decide (i = m)⟩ (by rw [HRP.out]; first | (simp; done) | (simp; omega)))
                            have d0 : wc.cell? ⟨D, 0, none⟩ = some (.string G.name) := (hbox_cell hDX 0).1
                            have z0 : wc.cell? ⟨w.heap.size + 1 + 1, 0, none⟩ = some (.string p.h.name) := (hbox_cell hS5.hd 0).1
                            have f0 := (hbox_cell hS5.hd 0).2
                            have d1 : wc.cell? ⟨D, 1, none⟩ = some (.int .i64 G.kind) := (hbox_cell hDX 1).1
                            have z1 : wc.cell? ⟨w.heap.size + 1 + 1, 1, none⟩ = some (.int .i64 p.h.kind) := (hbox_cell hS5.hd 1).1
                            have f1 := (hbox_cell hS5.hd 1).2
                            have d2 : wc.cell? ⟨D, 2, none⟩ = some (.int .i64 G.dim) := (hbox_cell hDX 2).1
                            have z2 : wc.cell? ⟨w.heap.size + 1 + 1, 2, none⟩ = some (.int .i64 p.h.dim) := (hbox_cell hS5.hd 2).1
                            have f2 := (hbox_cell hS5.hd 2).2
                            have d3 : wc.cell? ⟨D, 3, none⟩ = some (.int .i64 G.cap) := (hbox_cell hDX 3).1
                            have z3 : wc.cell? ⟨w.heap.size + 1 + 1, 3, none⟩ = some (.int .i64 p.h.cap) := (hbox_cell hS5.hd 3).1
                            have f3 := (hbox_cell hS5.hd 3).2
                            have d4 : wc.cell? ⟨D, 4, none⟩ = some (.int .i64 G.met) := (hbox_cell hDX 4).1
                            have z4 : wc.cell? ⟨w.heap.size + 1 + 1, 4, none⟩ = some (.int .i64 p.h.met) := (hbox_cell hS5.hd 4).1
                            have f4 := (hbox_cell hS5.hd 4).2
                            have d5 : wc.cell? ⟨D, 5, none⟩ = some (.int .i64 G.lay) := (hbox_cell hDX 5).1
                            have z5 : wc.cell? ⟨w.heap.size + 1 + 1, 5, none⟩ = some (.int .i64 p.h.lay) := (hbox_cell hS5.hd 5).1
                            have f5 := (hbox_cell hS5.hd 5).2
                            have hsz9 := hS5.lt
                            clear hDX hBX5 hS5
                            go_wp2
                            go_roundw
                            case rel => exact ⟨k + 1, _, by omega, by go_num, rfl, HR9, HS5.out.head G⟩
                            case measure => simp [intOf]; omega

    · obtain rfl : k = L := by omega
      have HR9 : Hid (R = PE (.inr (p, s.size))) := by unfold Hid; rw [hR.out, ← HLL.out, List.drop_length]; exact PE_nil s p
      clear hlt hk
      go_wp2
      go_meet
      exact ⟨p, s.size, rfl, HR9, HS.out⟩
  case rest =>
    obtain ⟨p, e, rfl, hR, hS⟩ := hcut
    have HS := Lib.hid hS
    have hR9 := hR.out
    have HLK : Hid (lackE p = (!p.c 0 || !p.c 1 || !p.c 2 || !p.c 4 || (decide (p.h.kind = 2) && !p.c 3) || (decide (p.h.met = 0) && !p.c 5))) := rfl
    unfold PE at hR9
    simp only at hR9
    have c0 : wc.cell? ⟨w.heap.size + 1 + 1 + 1, 0, none⟩ = some (.bool (p.c 0)) := (hbox_cell hS.cm 0).1
    have c1 : wc.cell? ⟨w.heap.size + 1 + 1 + 1, 1, none⟩ = some (.bool (p.c 1)) := (hbox_cell hS.cm 1).1
    have c2 : wc.cell? ⟨w.heap.size + 1 + 1 + 1, 2, none⟩ = some (.bool (p.c 2)) := (hbox_cell hS.cm 2).1
    have c3 : wc.cell? ⟨w.heap.size + 1 + 1 + 1, 3, none⟩ = some (.bool (p.c 3)) := (hbox_cell hS.cm 3).1
    have c4 : wc.cell? ⟨w.heap.size + 1 + 1 + 1, 4, none⟩ = some (.bool (p.c 4)) := (hbox_cell hS.cm 4).1
    have c5 : wc.cell? ⟨w.heap.size + 1 + 1 + 1, 5, none⟩ = some (.bool (p.c 5)) := (hbox_cell hS.cm 5).1
    have z0 : wc.cell? ⟨w.heap.size + 1 + 1, 0, none⟩ = some (.string p.h.name) := (hbox_cell hS.hd 0).1
    have z1 : wc.cell? ⟨w.heap.size + 1 + 1, 1, none⟩ = some (.int .i64 p.h.kind) := (hbox_cell hS.hd 1).1
    have z2 : wc.cell? ⟨w.heap.size + 1 + 1, 2, none⟩ = some (.int .i64 p.h.dim) := (hbox_cell hS.hd 2).1
    have z3 : wc.cell? ⟨w.heap.size + 1 + 1, 3, none⟩ = some (.int .i64 p.h.cap) := (hbox_cell hS.hd 3).1
    have z4 : wc.cell? ⟨w.heap.size + 1 + 1, 4, none⟩ = some (.int .i64 p.h.met) := (hbox_cell hS.hd 4).1
    have z5 : wc.cell? ⟨w.heap.size + 1 + 1, 5, none⟩ = some (.int .i64 p.h.lay) := (hbox_cell hS.hd 5).1
    obtain ⟨⟨r0, r1, r2, r3, r4, r5⟩, ⟨q0, q1⟩, fr, fq⟩ := hS.resat
    have f0 := fr 0; have f1 := fr 1; have f2 := fr 2; have f3 := fr 3; have f4 := fr 4; have f5 := fr 5; have g0 := fq 0; have g1 := fq 1
    have hsz9 := hS.lt
    have HB9 := Lib.hid hS.below
    have HR9 := Lib.hid hR9
    clear hR9 hR hS fr fq
    obtain ⟨ph, pc⟩ := p
    obtain ⟨nm, kd, dm, cp, mt, ly⟩ := ph
    simp only at c0 c1 c2 c3 c4 c5 z0 z1 z2 z3 z4 z5 HLK HR9
    generalize pc 0 = b0 at *
    generalize pc 1 = b1 at *
    generalize pc 2 = b2 at *
    generalize pc 3 = b3 at *
    generalize pc 4 = b4 at *
    generalize pc 5 = b5 at *
    cases b0 with
    | false =>
      have hl := Lib.hid (HLK.out.trans (show _ = true by simp [*]))
      rw [hl.out] at HR9
      simp only [if_true] at HR9
      clear hl HLK HS
      go_wp2
      refine bodyPost_ret (v := .tuple #[hdV hd0, .int .i64 0, .agg #[.int .i64 (e : Nat), .int .i64 142]]) (by simp [results, Tryz.results6, go_sem, hdV, hd0, r0, r1, r2, r3, r4, r5, q0, q1]) rfl ⟨by rw [HR9.out]; rfl, ?_⟩
      exact ((six_below HB9.out (Nat.le_refl _)).setCell (by simp) _).setCell (by simp) _
    | true =>
      cases b1 with
      | false =>
        have hl := Lib.hid (HLK.out.trans (show _ = true by simp [*]))
        rw [hl.out] at HR9
        simp only [if_true] at HR9
        clear hl HLK HS
        go_wp2
        refine bodyPost_ret (v := .tuple #[hdV hd0, .int .i64 0, .agg #[.int .i64 (e : Nat), .int .i64 142]]) (by simp [results, Tryz.results6, go_sem, hdV, hd0, r0, r1, r2, r3, r4, r5, q0, q1]) rfl ⟨by rw [HR9.out]; rfl, ?_⟩
        exact ((six_below HB9.out (Nat.le_refl _)).setCell (by simp) _).setCell (by simp) _
      | true =>
        cases b2 with
        | false =>
          have hl := Lib.hid (HLK.out.trans (show _ = true by simp [*]))
          rw [hl.out] at HR9
          simp only [if_true] at HR9
          clear hl HLK HS
          go_wp2
          refine bodyPost_ret (v := .tuple #[hdV hd0, .int .i64 0, .agg #[.int .i64 (e : Nat), .int .i64 142]]) (by simp [results, Tryz.results6, go_sem, hdV, hd0, r0, r1, r2, r3, r4, r5, q0, q1]) rfl ⟨by rw [HR9.out]; rfl, ?_⟩
          exact ((six_below HB9.out (Nat.le_refl _)).setCell (by simp) _).setCell (by simp) _
        | true =>
          cases b4 with
          | false =>
            have hl := Lib.hid (HLK.out.trans (show _ = true by simp [*]))
            rw [hl.out] at HR9
            simp only [if_true] at HR9
            clear hl HLK HS
            go_wp2
            refine bodyPost_ret (v := .tuple #[hdV hd0, .int .i64 0, .agg #[.int .i64 (e : Nat), .int .i64 142]]) (by simp [results, Tryz.results6, go_sem, hdV, hd0, r0, r1, r2, r3, r4, r5, q0, q1]) rfl ⟨by rw [HR9.out]; rfl, ?_⟩
            exact ((six_below HB9.out (Nat.le_refl _)).setCell (by simp) _).setCell (by simp) _
          | true =>
            by_cases hk : kd = 2
            · subst hk
              cases b3 with
              | false =>
                have hl := Lib.hid (HLK.out.trans (show _ = true by simp [*]))
                rw [hl.out] at HR9
                simp only [if_true] at HR9
                clear hl HLK HS
                go_wp2
                refine bodyPost_ret (v := .tuple #[hdV hd0, .int .i64 0, .agg #[.int .i64 (e : Nat), .int .i64 142]]) (by simp [results, Tryz.results6, go_sem, hdV, hd0, r0, r1, r2, r3, r4, r5, q0, q1]) rfl ⟨by rw [HR9.out]; rfl, ?_⟩
                exact ((six_below HB9.out (Nat.le_refl _)).setCell (by simp) _).setCell (by simp) _
              | true =>
                by_cases hm : mt = 0
                · subst hm
                  cases b5 with
                  | false =>
                    have hl := Lib.hid (HLK.out.trans (show _ = true by simp [*]))
                    rw [hl.out] at HR9
                    simp only [if_true] at HR9
                    clear hl HLK HS
                    go_wp2
                    refine bodyPost_ret (v := .tuple #[hdV hd0, .int .i64 0, .agg #[.int .i64 (e : Nat), .int .i64 142]]) (by simp [results, Tryz.results6, go_sem, hdV, hd0, r0, r1, r2, r3, r4, r5, q0, q1]) rfl ⟨by rw [HR9.out]; rfl, ?_⟩
                    exact ((six_below HB9.out (Nat.le_refl _)).setCell (by simp) _).setCell (by simp) _
                  | true =>
                    have hl := Lib.hid (HLK.out.trans (show _ = false by simp [*]))
                    rw [hl.out] at HR9
                    simp only [Bool.false_eq_true, if_false] at HR9
                    clear hl HLK HS
                    go_wp2
                    refine bodyPost_ret (v := .tuple #[.agg #[.string nm, .int .i64 2, .int .i64 dm, .int .i64 cp, .int .i64 0, .int .i64 ly], .int .i64 (e : Nat), .agg #[.int .i64 0, .int .i64 0]]) (by simp [results, Tryz.results6, go_sem, r0, r1, r2, r3, r4, r5, q0, q1]) rfl ⟨by rw [HR9.out]; rfl, ?_⟩
                    exact ((six_below HB9.out (Nat.le_refl _)).setCell (by simp) _).setCell (by simp) _
                · have k4 : (mt == 0) = false := beq_eq_false_iff_ne.2 hm
                  have hl := Lib.hid (HLK.out.trans (show _ = false by simp [*]))
                  rw [hl.out] at HR9
                  simp only [Bool.false_eq_true, if_false] at HR9
                  clear hl HLK HS
                  go_wp2
                  refine bodyPost_ret (v := .tuple #[.agg #[.string nm, .int .i64 2, .int .i64 dm, .int .i64 cp, .int .i64 mt, .int .i64 ly], .int .i64 (e : Nat), .agg #[.int .i64 0, .int .i64 0]]) (by simp [results, Tryz.results6, go_sem, r0, r1, r2, r3, r4, r5, q0, q1]) rfl ⟨by rw [HR9.out]; rfl, ?_⟩
                  exact ((six_below HB9.out (Nat.le_refl _)).setCell (by simp) _).setCell (by simp) _
            · have k1 : (kd == 2) = false := beq_eq_false_iff_ne.2 hk
              by_cases hm : mt = 0
              · subst hm
                cases b5 with
                | false =>
                  have hl := Lib.hid (HLK.out.trans (show _ = true by simp [*]))
                  rw [hl.out] at HR9
                  simp only [if_true] at HR9
                  clear hl HLK HS
                  go_wp2
                  refine bodyPost_ret (v := .tuple #[hdV hd0, .int .i64 0, .agg #[.int .i64 (e : Nat), .int .i64 142]]) (by simp [results, Tryz.results6, go_sem, hdV, hd0, r0, r1, r2, r3, r4, r5, q0, q1]) rfl ⟨by rw [HR9.out]; rfl, ?_⟩
                  exact ((six_below HB9.out (Nat.le_refl _)).setCell (by simp) _).setCell (by simp) _
                | true =>
                  have hl := Lib.hid (HLK.out.trans (show _ = false by simp [*]))
                  rw [hl.out] at HR9
                  simp only [Bool.false_eq_true, if_false] at HR9
                  clear hl HLK HS
                  go_wp2
                  refine bodyPost_ret (v := .tuple #[.agg #[.string nm, .int .i64 kd, .int .i64 dm, .int .i64 cp, .int .i64 0, .int .i64 ly], .int .i64 (e : Nat), .agg #[.int .i64 0, .int .i64 0]]) (by simp [results, Tryz.results6, go_sem, r0, r1, r2, r3, r4, r5, q0, q1]) rfl ⟨by rw [HR9.out]; rfl, ?_⟩
                  exact ((six_below HB9.out (Nat.le_refl _)).setCell (by simp) _).setCell (by simp) _
              · have k4 : (mt == 0) = false := beq_eq_false_iff_ne.2 hm
                have hl := Lib.hid (HLK.out.trans (show _ = false by simp [*]))
                rw [hl.out] at HR9
                simp only [Bool.false_eq_true, if_false] at HR9
                clear hl HLK HS
                go_wp2
                refine bodyPost_ret (v := .tuple #[.agg #[.string nm, .int .i64 kd, .int .i64 dm, .int .i64 cp, .int .i64 mt, .int .i64 ly], .int .i64 (e : Nat), .agg #[.int .i64 0, .int .i64 0]]) (by simp [results, Tryz.results6, go_sem, r0, r1, r2, r3, r4, r5, q0, q1]) rfl ⟨by rw [HR9.out]; rfl, ?_⟩
                exact ((six_below HB9.out (Nat.le_refl _)).setCell (by simp) _).setCell (by simp) _
end Go.Proofs
