/- feas.Times of the program. Conditions: a route of a million stops at most; an instance that may be relied on. -/
import Derived.Test.YthgagmndefaniaaG24
import Derived.Deep.Cut
import Derived.Deep.CutRange
import Derived.Test.YthgagmndefaniaaG18
namespace Go.Proofs
open Go.RowKit Go.Shelf Go.Canon Go.Feas Go.Plans
attribute [local go_sem] Oper.semAt_some
attribute [local go_sem ↓] Go.wp_at_zero Go.wp_at_succ
theorem ftbool {v : Value} {a b : Bool} (h : a = b) : Ending.returned (.tuple #[v, .bool a]) = .returned (.tuple #[v, .bool b]) := by rw [h]
/-- An instance and a vehicle, each in its box. -/
structure TvS (w : World) (x : Ins) (vn vm : Value) (D : Nat) (u p l : Int) (W : World) : Prop where
  box : InsBox W w.heap.size x vn vm 25
  below : Below w.heap.size w W
  veh : VBox W D x vn vm u p l
  lt : w.heap.size < D
theorem TvS.next {w W W' : World} {x : Ins} {vn vm : Value} {D : Nat} {u p l : Int} (h : TvS w x vn vm D u p l W) (hb : Below W.heap.size W W') : TvS w x vn vm D u p l W' := ⟨h.box.next hb, h.below.trans (hb.mono h.below.size), h.veh.next hb, h.lt⟩
theorem TvS.drew {w W : World} {x : Ins} {vn vm : Value} {D : Nat} {u p l : Int} (h : TvS w x vn vm D u p l W) : TvS w x vn vm D u p l W.drew := ⟨h.box, h.below.drew, h.veh, h.lt⟩
theorem TvS.drewN {w W : World} {x : Ins} {vn vm : Value} {D : Nat} {u p l : Int} (h : TvS w x vn vm D u p l W) (n : Nat) : TvS w x vn vm D u p l (W.drewN n) := ⟨h.box, cbelow_drewN h.below n, h.veh, h.lt⟩
theorem TvS.setL {w W : World} {x : Ins} {vn vm : Value} {D : Nat} {u p l : Int} (h : TvS w x vn vm D u p l W) (q : Int) : TvS w x vn vm D u p q (W.setCell ⟨D, 10, none⟩ (.int .i64 q)) :=
  ⟨h.box.below ((Below.refl (w.heap.size + 1) W).setCell (show w.heap.size + 1 ≤ D from h.lt) _) (Nat.lt_succ_self _), h.below.setCell (Nat.le_of_lt h.lt) _, h.veh.setL q, h.lt⟩
theorem set_block {W : World} {D : Nat} {a : Array Value} {t : TypeId} (h : W.heap[D]? = some (.cells a t)) (i : Nat) (v : Value) : (W.setCell ⟨D, i, none⟩ v).heap[D]? = some (.cells (a.setIfInBounds i v) t) := by
  unfold World.setCell
  show (W.heap.modify D _)[D]? = _
  rw [Array.getElem?_modify, if_pos rfl, h]
  rfl
theorem block_cell {W : World} {D : Nat} {a : Array Value} {t : TypeId} (h : W.heap[D]? = some (.cells a t)) (j : Nat) : W.cell? ⟨D, j, none⟩ = a[j]? := by
  unfold World.cell?; rw [h]; rfl
theorem block_frozen {W : World} {D : Nat} {a : Array Value} {t : TypeId} (h : W.heap[D]? = some (.cells a t)) (j : Nat) : W.frozen? ⟨D, j, none⟩ = false := by
  unfold World.frozen?; rw [h]; rfl
theorem stored11 {W : World} {D : Nat} {z0 z1 z2 z3 z4 z5 z6 z7 z8 z9 z10 : Value} {t : TypeId} (hz : W.heap[D]? = some (.cells #[z0, z1, z2, z3, z4, z5, z6, z7, z8, z9, z10] t)) (a0 a1 a2 a3 a4 a5 a6 a7 a8 a9 a10 : Value) :
    (((((((((((W.setCell ⟨D, 0, none⟩ a0).setCell ⟨D, 1, none⟩ a1).setCell ⟨D, 2, none⟩ a2).setCell ⟨D, 3, none⟩ a3).setCell ⟨D, 4, none⟩ a4).setCell ⟨D, 5, none⟩ a5).setCell ⟨D, 6, none⟩ a6).setCell ⟨D, 7, none⟩ a7).setCell ⟨D, 8, none⟩ a8).setCell ⟨D, 9, none⟩ a9).setCell ⟨D, 10, none⟩ a10).heap[D]? = some (.cells #[a0, a1, a2, a3, a4, a5, a6, a7, a8, a9, a10] t) ∧ Below D W (((((((((((W.setCell ⟨D, 0, none⟩ a0).setCell ⟨D, 1, none⟩ a1).setCell ⟨D, 2, none⟩ a2).setCell ⟨D, 3, none⟩ a3).setCell ⟨D, 4, none⟩ a4).setCell ⟨D, 5, none⟩ a5).setCell ⟨D, 6, none⟩ a6).setCell ⟨D, 7, none⟩ a7).setCell ⟨D, 8, none⟩ a8).setCell ⟨D, 9, none⟩ a9).setCell ⟨D, 10, none⟩ a10) := by
  have h0 := set_block hz 0 a0
  have h1 := set_block h0 1 a1
  have h2 := set_block h1 2 a2
  have h3 := set_block h2 3 a3
  have h4 := set_block h3 4 a4
  have h5 := set_block h4 5 a5
  have h6 := set_block h5 6 a6
  have h7 := set_block h6 7 a7
  have h8 := set_block h7 8 a8
  have h9 := set_block h8 9 a9
  have h10 := set_block h9 10 a10
  exact ⟨by simpa using h10, (((((((((((Below.refl D W).setCell (Nat.le_refl _) _).setCell (Nat.le_refl _) _).setCell (Nat.le_refl _) _).setCell (Nat.le_refl _) _).setCell (Nat.le_refl _) _).setCell (Nat.le_refl _) _).setCell (Nat.le_refl _) _).setCell (Nat.le_refl _) _).setCell (Nat.le_refl _) _).setCell (Nat.le_refl _) _).setCell (Nat.le_refl _) _⟩
theorem tvX_S {w W : World} {x : Ins} {vn vm : Value} {D b off : Nat} {u p l : Int} {d : Nd} (h : TvS w x vn vm D u p l W) (hb : b < w.heap.size) (hd : NdAt w b off d) : W.cell? ⟨D, 8, none⟩ = some (.int .i64 u) ∧ W.cell? ⟨w.heap.size, 6, none⟩ = some vn ∧ W.cell? ⟨b, off + 3, none⟩ = some (.int .i64 d.ready) ∧ ∃ q, TvS w x vn vm D u p q W :=
  ⟨h.veh.c 8, h.box.c 6, (hd.below h.below hb).ready, l, h⟩
/-- .. and a row of numbers that the call has made. -/
structure TmS (w : World) (x : Ins) (vn vm : Value) (D g n : Nat) (xs : List Int) (u p l : Int) (W : World) : Prop where
  tv : TvS w x vn vm D u p l W
  row : W.ownsRow (w.heap.size + 1) 3 1 (.slice (some ⟨g, 0, none⟩) n n) n (xs.map intV)
  ne : D ≠ g
theorem TmS.next {w W W' : World} {x : Ins} {vn vm : Value} {D g n : Nat} {xs : List Int} {u p l : Int} (h : TmS w x vn vm D g n xs u p l W) (hb : Below W.heap.size W W') : TmS w x vn vm D g n xs u p l W' := ⟨h.tv.next hb, fowns_next h.row hb, h.ne⟩
theorem TmS.drew {w W : World} {x : Ins} {vn vm : Value} {D g n : Nat} {xs : List Int} {u p l : Int} (h : TmS w x vn vm D g n xs u p l W) : TmS w x vn vm D g n xs u p l W.drew := ⟨h.tv.drew, h.row, h.ne⟩
theorem TmS.drewN {w W : World} {x : Ins} {vn vm : Value} {D g n : Nat} {xs : List Int} {u p l : Int} (h : TmS w x vn vm D g n xs u p l W) (m : Nat) : TmS w x vn vm D g n xs u p l (W.drewN m) := ⟨h.tv.drewN m, h.row, h.ne⟩
theorem tmS_start {w W : World} {x : Ins} {vn vm : Value} {D : Nat} {u p l : Int} (h : TvS w x vn vm D u p l W) (n : Nat) (hn : n ≤ maxLen) : TmS w x vn vm D W.heap.size n (List.replicate n 0) u p l (W.alloc (.cells (madeCells #[.int .i64 0] n) 3)) :=
  ⟨h.next (fbelow_box W _), powns_made W (w.heap.size + 1) 3 n h.box.lt hn, Nat.ne_of_lt h.veh.lt⟩
theorem TmS.serve {w W W' : World} {x : Ins} {vn vm : Value} {D g n : Nat} {xs : List Int} {u p l p' l' : Int} (h : TmS w x vn vm D g n xs u p l W) (hg : W.grownBy W' (some D)) (hv : VBox W' D x vn vm u p' l') : TmS w x vn vm D g n xs u p' l' W' :=
  ⟨⟨(hg.block _ h.tv.box.lt (fun e => by have := Option.some.inj e; have := h.tv.lt; omega)).trans h.tv.box, h.tv.below.grown hg h.tv.below.size (fun k e => by have := Option.some.inj e; have := h.tv.lt; omega), hv, h.tv.lt⟩, h.row.kept hg (.inr (fun e => h.ne (Option.some.inj e).symm)), h.ne⟩
theorem TmS.set {w W : World} {x : Ins} {vn vm : Value} {D g n : Nat} {xs : List Int} {u p l : Int} (h : TmS w x vn vm D g n xs u p l W) (j : Nat) (q : Int) : TmS w x vn vm D g n (xs.set j q) u p l (W.setCell ⟨g, j, none⟩ (.int .i64 q)) := by
  have hg : W.grownBy (W.setCell ⟨g, j, none⟩ (.int .i64 q)) (Value.slice (some ⟨g, 0, none⟩) n n).ownBlock := pgrownBy_setAt W g j _
  have o1 := (World.ownsRow.stored h.row j (intV q)).1
  refine ⟨⟨h.tv.box.grown (Nat.lt_succ_self _) h.row hg, fgrown_below h.tv.below h.tv.below.size (Nat.le_succ _) h.row hg, h.tv.veh.grown hg (fun e => h.ne (Option.some.inj e).symm), h.tv.lt⟩, ?_, h.ne⟩
  rw [List.map_set]
  exact o1
theorem tmS_S {w W : World} {x : Ins} {vn vm : Value} {D g n k : Nat} {xs : List Int} {u p l bg : Int} (h : TmS w x vn vm D g n xs u p l W) (hk : k < n) (hx : xs[k]? = some bg) :
    W.cell? ⟨w.heap.size, 0, none⟩ = some (.string x.name) ∧ W.cell? ⟨w.heap.size, 1, none⟩ = some (.int .i64 x.kind) ∧ W.cell? ⟨w.heap.size, 2, none⟩ = some (.int .i64 x.metric) ∧ W.cell? ⟨w.heap.size, 3, none⟩ = some (.int .i64 x.scale) ∧ W.cell? ⟨w.heap.size, 4, none⟩ = some (.int .i64 x.cap) ∧ W.cell? ⟨w.heap.size, 5, none⟩ = some (.int .i64 x.fleet) ∧ W.cell? ⟨w.heap.size, 6, none⟩ = some vn ∧ W.cell? ⟨w.heap.size, 7, none⟩ = some vm ∧ W.cell? ⟨g, k, none⟩ = some (.int .i64 bg) ∧ TmS w x vn vm D g n xs u p l W := by
  obtain ⟨c0, c1, c2, c3, c4, c5, c6, c7⟩ := h.tv.box.cells
  exact ⟨c0, c1, c2, c3, c4, c5, c6, c7, owns_at h.row hk hx, h⟩
theorem late_step {x : Ins} {t : TS} {s : Int} {o : Bool} (h : o = decide (t.late < 0)) : decide ((timeStep x t s).late < 0) = (o && !decide (unit x * (nd x s).due < begins x t s)) := by
  subst h
  show decide ((if t.late < 0 ∧ unit x * (nd x s).due < begins x t s then (t.out.length : Int) else t.late) < 0) = _
  by_cases h1 : t.late < 0
  · by_cases h2 : unit x * (nd x s).due < begins x t s
    · rw [if_pos ⟨h1, h2⟩, decide_eq_true h2, Bool.not_true, Bool.and_false]
      exact decide_eq_false (by omega)
    · rw [if_neg (fun e : _ ∧ _ => h2 e.2), decide_eq_false h2, Bool.not_false, Bool.and_true]
  · rw [if_neg (fun e : _ ∧ _ => h1 e.1), decide_eq_false h1, Bool.false_and]
/-- An instance in its box, in whatever comes behind. -/
structure BxS (w : World) (x : Ins) (vn vm : Value) (W : World) : Prop where
  box : InsBox W w.heap.size x vn vm 25
  below : Below w.heap.size w W
theorem BxS.next {w W W' : World} {x : Ins} {vn vm : Value} (h : BxS w x vn vm W) (hb : Below W.heap.size W W') : BxS w x vn vm W' := ⟨h.box.next hb, h.below.trans (hb.mono h.below.size)⟩
theorem BxS.drew {w W : World} {x : Ins} {vn vm : Value} (h : BxS w x vn vm W) : BxS w x vn vm W.drew := ⟨h.box, h.below.drew⟩
theorem BxS.alloc {w W : World} {x : Ins} {vn vm : Value} (h : BxS w x vn vm W) (o : Obj) : BxS w x vn vm (W.alloc o) := h.next (fbelow_box W o)
theorem bxS_S {w W : World} {x : Ins} {vn vm : Value} (h : BxS w x vn vm W) : W.cell? ⟨w.heap.size, 0, none⟩ = some (.string x.name) ∧ W.cell? ⟨w.heap.size, 1, none⟩ = some (.int .i64 x.kind) ∧ W.cell? ⟨w.heap.size, 2, none⟩ = some (.int .i64 x.metric) ∧ W.cell? ⟨w.heap.size, 3, none⟩ = some (.int .i64 x.scale) ∧ W.cell? ⟨w.heap.size, 4, none⟩ = some (.int .i64 x.cap) ∧ W.cell? ⟨w.heap.size, 5, none⟩ = some (.int .i64 x.fleet) ∧ W.cell? ⟨w.heap.size, 6, none⟩ = some vn ∧ W.cell? ⟨w.heap.size, 7, none⟩ = some vm ∧ BxS w x vn vm W := by
  obtain ⟨c0, c1, c2, c3, c4, c5, c6, c7⟩ := h.box.cells
  exact ⟨c0, c1, c2, c3, c4, c5, c6, c7, h⟩
set_option maxRecDepth 100000 in
set_option maxHeartbeats 2000000 in
theorem Try.Times_some (x : Ins) (vn vm v : Value) (r : List Int) (w : World) (hx : HasIns w vn vm x) (hg : Fine x) (hl : r.length ≤ 1000000) (hv : HasInts w v r) (hr0 : r.length ≠ 0) (hnb : nodesB x r = true) :
    Calls Try.prog 20 #[insV x vn vm, v] w fun e w' => ∃ v', e = .returned (.tuple #[v', .bool (decide (lateI x r < 0))]) ∧ HasInts w' v' (timesL x r) ∧ Below w.heap.size w w' := by
  obtain ⟨i0, hi, hz0, hz1, hz2⟩ := info_parts Try.info3
  have HI := Lib.hid hi
  have HX := Lib.hid hx
  have HQ : Hid (∀ W, HasIns W vn vm x → HasInts W v r → Calls Try.prog 37 #[insV x vn vm, v] W fun e w' => e = .returned (.bool true) ∧ Below W.heap.size W w') := fun W h k => hnb ▸ Try.allNodes_calls x vn vm v r W h hl k
  have HU := Lib.hid fun W h => Try.Unit_calls x vn vm W h
  have HC := Lib.hid fun B u l i j W h => Try.comes_calls x vn vm B u l i j W h hg
  have HSE := Lib.hid fun B u l p cm j W h hj => Try.serve_calls x vn vm B u l p cm j W h hg hj
  have HLA := Lib.hid fun m t W h hm => Try.late_calls x vn vm m t W h hg hm
  obtain ⟨b, off, cn, rfl, hlc, hcm, hNo⟩ := hx.all hg.lo
  obtain ⟨am, cm, rfl, _⟩ := hx.matrix.dat
  have HV := Lib.hid hv
  obtain ⟨ar, cr, rfl⟩ := hv.len
  obtain ⟨n, hn⟩ : ∃ n, r.length = n := ⟨_, rfl⟩
  rw [hn] at hl HV HQ hr0
  have HN := Lib.hid hn
  obtain ⟨L, hL⟩ : ∃ L, x.nodes.length = L := ⟨_, rfl⟩
  have HL := Lib.hid hL
  have hbw := hNo.1
  have hlo := hg.lo
  have HD0 : Hid (NdAt w b off (at' x 0)) := by have h := nodesAt_nd hNo (i := 0) hg.lo; rw [Nat.zero_mul, Nat.add_zero] at h; exact h
  rw [hL] at HX HQ HU HC HSE HLA hlo ⊢
  have hL0 : (0 : Int) < (L : Int) := by omega
  have hL00 : 0 < L := hlo
  have HG := Lib.hid hg
  have HT := Lib.hid hnb
  have hne : ((n : Int) == 0) = false := beq_eq_false_iff_ne.2 (by omega)
  unfold insV at HQ HU HLA ⊢
  rw [hn]
  obtain ⟨u0, w0, hu0, b0⟩ := wrap_unit (x := x) (hg.ready 0)
  have HST : Hid ((tstart x).now = unit x * (at' x 0).ready) := rfl
  have HM0 : Hid (IntKind.i64.wrap (unit x * (at' x 0).ready) = u0) := by rw [hu0]; exact wrap_i64 (by omega) (by omega)
  clear hx hv hn hL hg hi hNo hnb
  obtain ⟨uu, huu⟩ : ∃ uu, unit x = uu := ⟨_, rfl⟩
  rw [hu0] at HST
  rw [huu] at HU w0 HM0
  have HUU := Lib.hid huu
  clear huu hu0
  generalize hd0 : at' x 0 = d0 at HD0 w0 HM0
  have HD00 := Lib.hid hd0
  clear hd0
  have hnm : n ≤ maxLen := by unfold maxLen; omega
  have HB0 : Hid (BxS w x (.slice (some ⟨b, off, none⟩) L cn) (.slice am x.matrix.length cm) (w.alloc (.cells #[.string x.name, .int .i64 x.kind, .int .i64 x.metric, .int .i64 x.scale, .int .i64 x.cap, .int .i64 x.fleet, .slice (some ⟨b, off, none⟩) L cn, .slice am x.matrix.length cm] 25))) := ⟨InsBox.new w x _ _ 25, fbelow_box w _⟩
  generalize x.matrix.length = M at *
  go_enter Try.func20, Try.ntmps20
  go_upto_region 5 with (go_at_call 37; (with_reducible refine (HQ.out _ (HX.out.next HB0.out.below) (HV.out.next HB0.out.below)).mono ?_); rintro e w1 ⟨rfl, hb1⟩; have HB1 := Lib.hid (HB0.out.next hb1); obtain ⟨c0, c1, c2, c3, c4, c5, c6, c7⟩ := HB1.out.box.cells; clear hb1)
  go_cut [6] from 22 to 25 (fun s6 wx => ∃ D, s6 = .pointer (some ⟨D, 0, none⟩) ∧ TvS w x (.slice (some ⟨b, off, none⟩) L cn) (.slice am M cm) D uu 0 0 wx)
  case first =>
    clear c0 c1 c2 c3 c4 c5 c6 c7
    refine wp_region_held_drew (S := (fun W => W.cell? ⟨w.heap.size, 0, none⟩ = some (.string x.name) ∧ W.cell? ⟨w.heap.size, 1, none⟩ = some (.int .i64 x.kind) ∧ W.cell? ⟨w.heap.size, 2, none⟩ = some (.int .i64 x.metric) ∧ W.cell? ⟨w.heap.size, 3, none⟩ = some (.int .i64 x.scale) ∧ W.cell? ⟨w.heap.size, 4, none⟩ = some (.int .i64 x.cap) ∧ W.cell? ⟨w.heap.size, 5, none⟩ = some (.int .i64 x.fleet) ∧ W.cell? ⟨w.heap.size, 6, none⟩ = some (.slice (some ⟨b, off, none⟩) L cn) ∧ W.cell? ⟨w.heap.size, 7, none⟩ = some (.slice am M cm) ∧ BxS w x (.slice (some ⟨b, off, none⟩) L cn) (.slice am M cm) W)) (by kernel_rfl) (bxS_S HB1.out.drew) (fun hHeld0 => ?_)
    have B4 := HB1.out.drew
    clear hHeld0
    generalize w1.drew = W4 at *
    refine wpAnyH_take (i := 0) (v := ?_) rfl (by kernel_rfl) (by kernel_rfl) (by kernel_rfl) (fun _ _ _ h => h) (Or.inl ⟨by kernel_rfl, ?_⟩) (bxS_S B4) ?_
    rotate_left
    · (intro w0 hSw; (try dsimp only at hSw); obtain ⟨c0, c1, c2, c3, c4, c5, c6, c7, hBx⟩ := hSw; go_simp; try with_reducible rfl)
    try dsimp only [List.getElem_toArray, List.getElem_cons_succ, List.getElem_cons_zero, Act.put]
    try simp only [List.setIfInBounds_toArray, List.set_cons_zero, List.set_cons_succ]
    refine wpAnyH_take (i := 1) (v := ?_) rfl (by kernel_rfl) (by kernel_rfl) (by kernel_rfl) (fun _ _ _ h => h) (Or.inl ⟨by kernel_rfl, ?_⟩) (bxS_S B4) ?_
    rotate_left
    · (intro w0 hSw; (try dsimp only at hSw); obtain ⟨c0, c1, c2, c3, c4, c5, c6, c7, hBx⟩ := hSw; go_simp; try with_reducible rfl)
    try dsimp only [List.getElem_toArray, List.getElem_cons_succ, List.getElem_cons_zero, Act.put]
    try simp only [List.setIfInBounds_toArray, List.set_cons_zero, List.set_cons_succ]
    refine wpAnyH_ready (rs := [2, 4]) (by kernel_rfl) (by simp) (AllReadyH.cons rfl (fun K hK => ?_) (AllReadyH.cons rfl (fun K hK => ?_) AllReadyH.nil))
    · go_simp
      go_at_call 38
      (with_reducible refine (HU.out _ (HX.out.next B4.below)).mono ?_)
      rintro e W5 ⟨rfl, hbW5⟩
      have B5 := B4.next hbW5
      refine hK.out _ _ (bxS_S B5) (fun hH => ?_)
      clear hH hK K
      try dsimp only [List.getElem_toArray, List.getElem_cons_succ, List.getElem_cons_zero, Act.put]
      try simp only [List.setIfInBounds_toArray, List.set_cons_zero, List.set_cons_succ]
      refine wpAnyH_take (i := 3) (v := ?_) rfl (by kernel_rfl) (by kernel_rfl) (by kernel_rfl) (fun _ _ _ h => h) (Or.inl ⟨by kernel_rfl, ?_⟩) (bxS_S B5) ?_
      rotate_left
      · (intro w0 hSw; (try dsimp only at hSw); obtain ⟨c0, c1, c2, c3, c4, c5, c6, c7, hBx⟩ := hSw; go_simp; try with_reducible rfl)
      try dsimp only [List.getElem_toArray, List.getElem_cons_succ, List.getElem_cons_zero, Act.put]
      try simp only [List.setIfInBounds_toArray, List.set_cons_zero, List.set_cons_succ]
      refine wpAnyH_ready (rs := [4]) (by kernel_rfl) (by simp) (AllReadyH.cons rfl (fun K hK => ?_) AllReadyH.nil)
      go_simp
      refine hK.out _ _ (bxS_S (B5.alloc _)) (fun hH => ?_)
      clear hH hK K
      try dsimp only [List.getElem_toArray, List.getElem_cons_succ, List.getElem_cons_zero, Act.put]
      try simp only [List.setIfInBounds_toArray, List.set_cons_zero, List.set_cons_succ]
      refine wpAnyH_ready (rs := [5]) (by kernel_rfl) (by simp) (AllReadyH.cons rfl (fun K hK => ?_) AllReadyH.nil)
      go_simp
      have HF : Hid (TvS w x (.slice (some ⟨b, off, none⟩) L cn) (.slice am M cm) W5.heap.size uu 0 0 (W5.alloc (.cells (vehC x (.slice (some ⟨b, off, none⟩) L cn) (.slice am M cm) uu 0 0) 73))) := ⟨(B5.alloc _).box, (B5.alloc _).below, VBox.new W5 x _ _ uu 0 0, B5.box.lt⟩
      unfold vehC at HF
      refine hK.out _ _ (bxS_S ⟨HF.out.box, HF.out.below⟩) (fun hH => ?_)
      clear hH hK K
      refine wpAnyH_done (by kernel_rfl) ?_ _
      try dsimp only [List.getElem_toArray, List.getElem_cons_succ, List.getElem_cons_zero, Act.put]
      try simp only [List.setIfInBounds_toArray, List.set_cons_zero, List.set_cons_succ]
      go_wp2_with (fail)
      go_meet
      exact ⟨_, rfl, HF.out⟩
    · go_simp
      refine hK.out _ _ (bxS_S (B4.alloc _)) (fun hH => ?_)
      clear hH hK K
      try dsimp only [List.getElem_toArray, List.getElem_cons_succ, List.getElem_cons_zero, Act.put]
      try simp only [List.setIfInBounds_toArray, List.set_cons_zero, List.set_cons_succ]
      refine wpAnyH_ready (rs := [2]) (by kernel_rfl) (by simp) (AllReadyH.cons rfl (fun K hK => ?_) AllReadyH.nil)
      go_simp
      go_at_call 38
      (with_reducible refine (HU.out _ (HX.out.next (B4.alloc _).below)).mono ?_)
      rintro e W5 ⟨rfl, hbW5⟩
      have B5 := (B4.alloc _).next hbW5
      refine hK.out _ _ (bxS_S B5) (fun hH => ?_)
      clear hH hK K
      try dsimp only [List.getElem_toArray, List.getElem_cons_succ, List.getElem_cons_zero, Act.put]
      try simp only [List.setIfInBounds_toArray, List.set_cons_zero, List.set_cons_succ]
      refine wpAnyH_take (i := 3) (v := ?_) rfl (by kernel_rfl) (by kernel_rfl) (by kernel_rfl) (fun _ _ _ h => h) (Or.inl ⟨by kernel_rfl, ?_⟩) (bxS_S B5) ?_
      rotate_left
      · (intro w0 hSw; (try dsimp only at hSw); obtain ⟨c0, c1, c2, c3, c4, c5, c6, c7, hBx⟩ := hSw; go_simp; try with_reducible rfl)
      try dsimp only [List.getElem_toArray, List.getElem_cons_succ, List.getElem_cons_zero, Act.put]
      try simp only [List.setIfInBounds_toArray, List.set_cons_zero, List.set_cons_succ]
      have HZ : Hid (W5.heap[W4.heap.size]? = some (.cells #[Value.string ⟨#[]⟩, .int .i64 0, .int .i64 0, .int .i64 0, .int .i64 0, .int .i64 0, .slice none 0 0, .slice none 0 0, .int .i64 0, .int .i64 0, .int .i64 0] 73)) := (hbW5.block _ (by simp)).trans (World.alloc_heap_new W4 _)
      have HBX := Lib.hid B5
      have HLT := Lib.hid B4.box.lt
      have z0 := block_cell HZ.out 0
      have y0 := block_frozen HZ.out 0
      have z1 := block_cell HZ.out 1
      have y1 := block_frozen HZ.out 1
      have z2 := block_cell HZ.out 2
      have y2 := block_frozen HZ.out 2
      have z3 := block_cell HZ.out 3
      have y3 := block_frozen HZ.out 3
      have z4 := block_cell HZ.out 4
      have y4 := block_frozen HZ.out 4
      have z5 := block_cell HZ.out 5
      have y5 := block_frozen HZ.out 5
      have z6 := block_cell HZ.out 6
      have y6 := block_frozen HZ.out 6
      have z7 := block_cell HZ.out 7
      have y7 := block_frozen HZ.out 7
      have z8 := block_cell HZ.out 8
      have y8 := block_frozen HZ.out 8
      have z9 := block_cell HZ.out 9
      have y9 := block_frozen HZ.out 9
      have z10 := block_cell HZ.out 10
      have y10 := block_frozen HZ.out 10
      clear B5 hbW5 B4
      have HF : Hid (TvS w x (.slice (some ⟨b, off, none⟩) L cn) (.slice am M cm) W4.heap.size uu 0 0 (((((((((((W5.setCell ⟨W4.heap.size, 0, none⟩ (.string x.name)).setCell ⟨W4.heap.size, 1, none⟩ (.int .i64 x.kind)).setCell ⟨W4.heap.size, 2, none⟩ (.int .i64 x.metric)).setCell ⟨W4.heap.size, 3, none⟩ (.int .i64 x.scale)).setCell ⟨W4.heap.size, 4, none⟩ (.int .i64 x.cap)).setCell ⟨W4.heap.size, 5, none⟩ (.int .i64 x.fleet)).setCell ⟨W4.heap.size, 6, none⟩ (.slice (some ⟨b, off, none⟩) L cn)).setCell ⟨W4.heap.size, 7, none⟩ (.slice am M cm)).setCell ⟨W4.heap.size, 8, none⟩ (.int .i64 uu)).setCell ⟨W4.heap.size, 9, none⟩ (.int .i64 0)).setCell ⟨W4.heap.size, 10, none⟩ (.int .i64 0))) := by
        have h := stored11 HZ.out (.string x.name) (.int .i64 x.kind) (.int .i64 x.metric) (.int .i64 x.scale) (.int .i64 x.cap) (.int .i64 x.fleet) (.slice (some ⟨b, off, none⟩) L cn) (.slice am M cm) (.int .i64 uu) (.int .i64 0) (.int .i64 0)
        exact ⟨HBX.out.box.below h.2 HLT.out, HBX.out.below.trans (h.2.mono (Nat.le_of_lt HLT.out)), h.1, HLT.out⟩
      refine wpAnyH_ready (rs := [5]) (by kernel_rfl) (by simp) (AllReadyH.cons rfl (fun K hK => ?_) AllReadyH.nil)
      go_simp
      refine hK.out _ _ (bxS_S ⟨HF.out.box, HF.out.below⟩) (fun hH => ?_)
      clear hH hK K
      refine wpAnyH_done (by kernel_rfl) ?_ _
      try dsimp only [List.getElem_toArray, List.getElem_cons_succ, List.getElem_cons_zero, Act.put]
      try simp only [List.setIfInBounds_toArray, List.set_cons_zero, List.set_cons_succ]
      go_wp2_with (fail)
      go_meet
      exact ⟨_, rfl, HF.out⟩
  case rest =>
    obtain ⟨D, rfl, hTv⟩ := hcut
    have HT1 := Lib.hid hTv
    clear hTv HB1 HB0 HQ HU c0 c1 c2 c3 c4 c5 c6 c7 w0
    have e10 := HT1.out.veh.c 10
    have f10 := HT1.out.veh.frozen 10
    unfold vehC at e10
    go_wp2_with (fail)
    go_region_held3 (fun W => W.cell? ⟨D, 8, none⟩ = some (.int .i64 uu) ∧ W.cell? ⟨w.heap.size, 6, none⟩ = some (.slice (some ⟨b, off, none⟩) L cn) ∧ W.cell? ⟨b, off + 3, none⟩ = some (.int .i64 d0.ready) ∧ ∃ q, TvS w x (.slice (some ⟨b, off, none⟩) L cn) (.slice am M cm) D uu 0 q W)
      ((go_split_ands; (first | exact tvX_S HT1.out.drew hbw HD0.out | exact tvX_S (HT1.out.drew.setL _) hbw HD0.out)))
      (fail)
    rename_i hh
    clear hh e10 f10
    have HT2 : Hid (TvS w x (.slice (some ⟨b, off, none⟩) L cn) (.slice am M cm) D uu 0 u0 (wc.setCell ⟨D, 10, none⟩ (.int .i64 (IntKind.i64.wrap (uu * d0.ready)))).drew) := by
      unfold Hid; rw [HM0.out]; exact (HT1.out.setL _).drew
    obtain ⟨V, hV⟩ : ∃ V, V = (wc.setCell ⟨D, 10, none⟩ (.int .i64 (IntKind.i64.wrap (uu * d0.ready)))).drew := ⟨_, rfl⟩
    rw [← hV] at HT2 ⊢
    clear hV HT1
    have HS0 := Lib.hid (tmS_start HT2.out n hnm)
    go_wp2_with (at_make; refine wpList_make_row _ rfl _ _ 23 rfl 3 i0 (.int .i64 0) Try.underlying23 HI.out hz0 hz1 rfl .i64 .i64 n rfl rfl (by rw [hz2]; omega) (by omega) ?_)
    obtain ⟨g, hgg⟩ : ∃ g, V.heap.size = g := ⟨_, rfl⟩
    rw [hgg] at HS0 ⊢
    clear hgg hz0 hz1 hz2 HI HT2 HM0 hnm
    go_loopw [8, 40] (fun ot i wr => ∃ k : Nat, k ≤ n ∧ i = .int .i64 (k : Int) ∧ ot = .bool (decide ((timesF x (r.take k)).late < 0)) ∧ TmS w x (.slice (some ⟨b, off, none⟩) L cn) (.slice am M cm) D g n ((timesF x (r.take k)).out ++ List.replicate (n - k) 0) uu (((timesF x (r.take k)).pos : Int)) ((timesF x (r.take k)).now) wr) (fun _ i _ => n - (intOf i).toNat)
    case atStart => exact ⟨0, Nat.zero_le _, rfl, rfl, by show TmS w x (.slice (some ⟨b, off, none⟩) L cn) (.slice am M cm) D g n (List.replicate n 0) uu (0) ((tstart x).now) _; rw [HST.out]; exact HS0.out⟩
    case round =>
      obtain ⟨k, hk, rfl, rfl, hS⟩ := hrel
      have HS := Lib.hid hS
      clear HS0
      by_cases hlt : k < n
      · obtain ⟨s, hs⟩ : ∃ s, r[k]? = some s := ⟨_, List.getElem?_eq_getElem (by have := HN.out; omega)⟩
        have hki : (k : Int) < (n : Int) := by omega
        obtain ⟨b2, off2, cap, e, _, _, hbw2, hc⟩ := HV.out.atc hs
        rw [HN.out] at e
        injection e with h1 h2 h3
        subst h1
        subst h3
        clear h2
        have hc := (hS.tv.below.cell (p := ⟨b2, off2 + k, none⟩) hbw2).trans hc
        have hsn := nodeB_lt (nodesB_at HT.out hs)
        have HE := Lib.hid (by rw [ptake_snoc hs, timesF_snoc] : timesF x (r.take (k + 1)) = timeStep x (timesF x (r.take k)) s)
        have hTB := timesF_bounds HG.out (r.take k) (nodesB_sub HT.out k)
        rw [List.length_take, Nat.min_eq_left (by have := HN.out; omega)] at hTB
        have hbg := begins_bounds HG.out hTB (nodesB_at HT.out hs)
        have hol := timesF_length x (r.take k)
        rw [List.length_take, Nat.min_eq_left (by have := HN.out; omega)] at hol
        obtain ⟨m, rfl⟩ : ∃ m : Nat, s = (m : Int) := ⟨s.toNat, by omega⟩
        simp only [Int.toNat_natCast] at hsn
        have hwb := way_bounds HG.out hTB.pos hsn.2.1
        have HCM := Lib.hid fun W h hv => HC.out D uu (timesF x (r.take k)).now (timesF x (r.take k)).pos m W h (by have := hTB.pos; have := HL.out; omega) (by have := HL.out; omega) (by have := hTB.now; omega) hv
        rw [HL.out] at hsn
        have hmL := hsn.2.2
        have hmN := hsn.2.1
        have HSV := Lib.hid fun l p cm W h hb hv => HSE.out D uu l p cm m W h hmN HUU.out hb hv
        have HLT := Lib.hid fun t W h => HLA.out m t W h hmN
        obtain ⟨ur, q1, hur, p1⟩ := wrap_unit (x := x) (HG.out.ready m)
        obtain ⟨ud, q2, hud, p2⟩ := wrap_unit (x := x) (HG.out.due m)
        obtain ⟨us, q3, hus, p3⟩ := wrap_unit (x := x) (HG.out.service m)
        have HST2 : Hid (timeStep x (timesF x (r.take k)) (m : Int) = ⟨begins x (timesF x (r.take k)) (m : Int) + unit x * (at' x m).service, m, (timeStep x (timesF x (r.take k)) (m : Int)).late, (timesF x (r.take k)).out ++ [begins x (timesF x (r.take k)) (m : Int)]⟩) := by
          unfold Hid timeStep nd; simp only [Int.toNat_natCast]
        have HBG : Hid (max ((timesF x (r.take k)).now + way x (timesF x (r.take k)).pos m) (unit x * (at' x m).ready) = begins x (timesF x (r.take k)) (m : Int)) := by
          unfold Hid begins nd; simp only [Int.toNat_natCast]
        have HLS : Hid (decide ((timeStep x (timesF x (r.take k)) (m : Int)).late < 0) = (decide ((timesF x (r.take k)).late < 0) && !decide (ud < begins x (timesF x (r.take k)) (m : Int)))) := by
          have h := late_step (x := x) (t := timesF x (r.take k)) (s := (m : Int)) rfl
          have e : unit x * (nd x (m : Int)).due = ud := by unfold nd; rw [Int.toNat_natCast]; exact hud
          simp only [e] at h
          exact h
        simp only [hud] at HLT
        rw [HUU.out] at hur hus HST2 HBG
        rw [hur] at HBG
        rw [hus] at HST2
        rw [hur, hus] at HSV
        have hnow := hTB.now
        have hcb : 0 ≤ (timesF x (r.take k)).now + way x (timesF x (r.take k)).pos m ∧ (timesF x (r.take k)).now + way x (timesF x (r.take k)).pos m ≤ 4000000000000000000 := by omega
        clear hTB hs hur hud hus q1 q2 q3
        generalize (timeStep x (timesF x (r.take k)) (m : Int)).late = lt' at *
        generalize begins x (timesF x (r.take k)) (m : Int) = bg at *
        generalize timesF x (r.take k) = t at *
        obtain ⟨tn, tp, tl, tq⟩ := t
        simp only at *
        generalize way x tp m = wy at *
        generalize at' x m = d at *
        have HSet : Hid (∀ W, TmS w x (.slice (some ⟨b, off, none⟩) L cn) (.slice am M cm) D g n (tq ++ List.replicate (n - k) 0) uu ((m : Int)) (bg + us) W → TmS w x (.slice (some ⟨b, off, none⟩) L cn) (.slice am M cm) D g n ((tq ++ [bg]) ++ List.replicate (n - (k + 1)) 0) uu ((m : Int)) (bg + us) (W.setCell ⟨g, k, none⟩ (.int .i64 bg))) := fun W h0 => by
          have h := h0.set k bg
          have e : n - k = n - (k + 1) + 1 := by omega
          rw [e] at h
          have e2 := set_zeros tq (n - (k + 1)) bg
          rw [hol] at e2
          rw [e2] at h
          exact h
        have HGet : Hid (((tq ++ [bg]) ++ List.replicate (n - (k + 1)) 0)[k]? = some bg) := by
          unfold Hid
          rw [List.append_assoc, List.getElem?_append_right (by omega), hol, Nat.sub_self]; rfl
        have hBG := Lib.hid hbg
        have hk1 : (k : Int) ≤ 1000000 := by omega
        have HCB := Lib.hid hcb
        clear hS hol p1 p2 p3 hwb hsn hbg hcb hnow
        go_upto_region 16 with (first
          | (go_at_call 39; (with_reducible refine (HCM.out _ (HX.out.next HS.out.tv.below) HS.out.tv.veh).mono ?_); rintro e w3 ⟨rfl, hb3⟩; have HS3 := Lib.hid (HS.out.next hb3); clear hb3)
          | (go_at_call 40; (with_reducible refine (HSV.out _ _ _ _ (HX.out.next HS3.out.tv.below) HCB.out HS3.out.tv.veh).mono ?_); rintro e w4 ⟨rfl, hg4, hv4⟩; have HS4 := Lib.hid (HS3.out.serve hg4 hv4); clear hg4 hv4; obtain ⟨z0, hz⟩ := owns_cell HS4.out.row hlt; have hfz := World.ownsRow.frozenAt HS4.out.row k))
        have HS4b := HS4.out
        rw [HBG.out] at HS4b ⊢
        have HS5 := Lib.hid (HSet.out _ HS4b)
        clear HS4b hz hfz HS HS3 HS4 HCM HSV
        generalize w4.setCell ⟨g, k, none⟩ (.int .i64 bg) = V5 at *
        cases hlt0 : decide (tl < 0) with
        | true =>
          rw [hlt0] at HLS
          have HLB : Hid (lt' < 0 ↔ ¬ ud < bg) := by
            have h := HLS.out
            rw [Bool.true_and] at h
            unfold Hid
            rw [← decide_eq_true_iff (p := lt' < 0), h]
            simp
          clear hlt0
          go_region_held3 (fun W => W.cell? ⟨w.heap.size, 0, none⟩ = some (.string x.name) ∧ W.cell? ⟨w.heap.size, 1, none⟩ = some (.int .i64 x.kind) ∧ W.cell? ⟨w.heap.size, 2, none⟩ = some (.int .i64 x.metric) ∧ W.cell? ⟨w.heap.size, 3, none⟩ = some (.int .i64 x.scale) ∧ W.cell? ⟨w.heap.size, 4, none⟩ = some (.int .i64 x.cap) ∧ W.cell? ⟨w.heap.size, 5, none⟩ = some (.int .i64 x.fleet) ∧ W.cell? ⟨w.heap.size, 6, none⟩ = some (.slice (some ⟨b, off, none⟩) L cn) ∧ W.cell? ⟨w.heap.size, 7, none⟩ = some (.slice am M cm) ∧ W.cell? ⟨g, k, none⟩ = some (.int .i64 bg) ∧ TmS w x (.slice (some ⟨b, off, none⟩) L cn) (.slice am M cm) D g n ((tq ++ [bg]) ++ List.replicate (n - (k + 1)) 0) uu ((m : Int)) (bg + us) W)
            ((go_split_ands; (first | exact tmS_S HS5.out.drew hlt HGet.out | exact tmS_S (by assumption) hlt HGet.out | exact tmS_S (TmS.next HS5.out.drew (by assumption)) hlt HGet.out | exact tmS_S (TmS.drew (by assumption)) hlt HGet.out | exact tmS_S (TmS.next (by assumption) (by assumption)) hlt HGet.out)))
            ((go_at_call 41; (with_reducible refine (HLT.out _ _ (HX.out.next HS5.out.drew.tv.below)).mono ?_); rintro e w6 ⟨rfl, hb6⟩))
          have T := (show _ ∧ _ ∧ _ ∧ _ ∧ _ ∧ _ ∧ _ ∧ _ ∧ _ ∧ TmS w x (.slice (some ⟨b, off, none⟩) L cn) (.slice am M cm) D g n ((tq ++ [bg]) ++ List.replicate (n - (k + 1)) 0) uu ((m : Int)) (bg + us) w6 by assumption).2.2.2.2.2.2.2.2.2
          have HS6 := Lib.hid T
          rename_i hh
          clear hh T
          clear hc
          go_wp2
          go_roundw
          case rel => exact ⟨k + 1, by omega, by go_num, by rw [HE.out, HST2.out]; simp only; rw [HLS.out, Bool.true_and], by rw [HE.out, HST2.out]; exact HS6.out⟩
          case measure => simp [intOf]; omega
        | false =>
          rw [hlt0] at HLS
          clear hlt0 hc
          go_quiet (fail)
          go_wp2
          go_roundw
          case rel => exact ⟨k + 1, by omega, by go_num, by rw [HE.out, HST2.out]; simp only; rw [HLS.out, Bool.false_and], by rw [HE.out, HST2.out]; exact HS5.out.drewN _⟩
          case measure => simp [intOf]; omega
      · obtain rfl : k = n := by omega
        have e : (timesF x (r.take k)) = timesF x r := by rw [List.take_of_length_le (by have := HN.out; omega)]
        have hol := timesF_length x r
        have hTB := timesF_bounds HG.out r HT.out
        rw [HN.out] at hTB hol
        rw [e, Nat.sub_self, List.replicate_zero, List.append_nil] at HS
        rw [e]
        have hwb := way_bounds HG.out hTB.pos HG.out.lo
        have hCM := fun W h hv => HC.out D uu (timesF x r).now (timesF x r).pos 0 W h (by have := hTB.pos; have := HL.out; omega) (by omega) (by have := hTB.now; omega) hv
        obtain ⟨ud, q2, hud, p2⟩ := wrap_unit (x := x) (HG.out.due 0)
        have hLT := fun t W h => HLA.out 0 t W h (by omega)
        simp only [hud, Int.natCast_zero] at hLT
        simp only [Int.natCast_zero] at hCM
        have HCM := Lib.hid hCM
        have HLT := Lib.hid hLT
        have HLI : Hid (decide (lateI x r < 0) = (decide ((timesF x r).late < 0) && !decide (ud < (timesF x r).now + way x (timesF x r).pos 0))) := by
          unfold Hid lateI back
          rw [if_neg (by rw [HN.out]; exact hr0), if_neg (by rw [HT.out]; decide), HN.out, hud]
          simp only [decide_eq_true_eq]
          by_cases h1 : (timesF x r).late < 0
          · by_cases h2 : ud < (timesF x r).now + way x (timesF x r).pos 0
            · rw [if_pos ⟨h1, h2⟩, decide_eq_true h2, Bool.not_true, Bool.and_false]
              exact decide_eq_false (by omega)
            · rw [if_neg (fun e : _ ∧ _ => h2 e.2), decide_eq_false h2, Bool.not_false, Bool.and_true]
          · rw [if_neg (fun e : _ ∧ _ => h1 e.1), decide_eq_false h1, Bool.false_and]
        have HIN : Hid (∀ W, TmS w x (.slice (some ⟨b, off, none⟩) L cn) (.slice am M cm) D g k ((timesF x r).out) uu (((timesF x r).pos : Int)) ((timesF x r).now) W → HasInts W (.slice (some ⟨g, 0, none⟩) k k) (timesL x r)) := fun W h => by
          have h2 := h.row
          have h3 := hasInts_of_owns (show W.ownsRow (w.heap.size + 1) 3 1 (.slice (some ⟨g, 0, none⟩) k k) (timesF x r).out.length ((timesF x r).out.map intV) by rw [hol]; exact h2)
          unfold timesL
          rw [HT.out]
          exact h3
        have hnow := hTB.now
        clear hTB hud hS e hol hCM hLT q2
        generalize timesF x r = t at *
        obtain ⟨tn, tp, tl, tq⟩ := t
        simp only at *
        generalize way x tp 0 = wy at *
        have hcb : 0 ≤ tn + wy ∧ tn + wy ≤ 4000000000000000000 := by omega
        cases hlt0 : decide (tl < 0) with
        | true =>
          rw [hlt0, Bool.true_and] at HLI
          clear hlt0
          go_wp2_with (first
            | (go_at_call 39; (with_reducible refine (HCM.out _ (HX.out.next HS.out.tv.below) HS.out.tv.veh).mono ?_); rintro e w3 ⟨rfl, hb3⟩; have HS3 := Lib.hid (HS.out.next hb3); clear hb3; obtain ⟨c0, c1, c2, c3, c4, c5, c6, c7⟩ := HS3.out.tv.box.cells)
            | (go_at_call 41; (with_reducible refine (HLT.out _ _ (HX.out.next HS3.out.tv.below)).mono ?_); rintro e w4 ⟨rfl, hb4⟩; have HS4 := Lib.hid (HS3.out.next hb4); clear hb4))
          go_ret2
          exact ⟨_, ftbool HLI.out.symm, HIN.out _ HS4.out, HS4.out.tv.below⟩
        | false =>
          rw [hlt0, Bool.false_and] at HLI
          clear hlt0
          go_wp2_with (go_at_call 39; (with_reducible refine (HCM.out _ (HX.out.next HS.out.tv.below) HS.out.tv.veh).mono ?_); rintro e w3 ⟨rfl, hb3⟩; have HS3 := Lib.hid (HS.out.next hb3); clear hb3)
          go_ret2
          exact ⟨_, ftbool HLI.out.symm, HIN.out _ HS3.out, HS3.out.tv.below⟩
theorem Try.Times_calls (x : Ins) (vn vm v : Value) (r : List Int) (w : World) (hx : HasIns w vn vm x) (hg : Fine x) (hl : r.length ≤ 1000000) (hv : HasInts w v r) :
    Calls Try.prog 20 #[insV x vn vm, v] w fun e w' => ∃ v', e = .returned (.tuple #[v', .bool (decide (lateI x r < 0))]) ∧ HasInts w' v' (timesL x r) ∧ Below w.heap.size w w' := by
  by_cases hr0 : r.length = 0
  · have hr : r = [] := List.length_eq_zero_iff.1 hr0
    subst hr
    obtain ⟨an, cn, rfl, _⟩ := hx.nodes.dat
    obtain ⟨am, cm, rfl, _⟩ := hx.matrix.dat
    obtain ⟨ar, cr, rfl⟩ := hv.len
    have hLI : Hid (decide (lateI x [] < 0) = true) := rfl
    unfold insV
    clear hx hg hv
    go_enter Try.func20, Try.ntmps20
    go_wp2
    go_ret2
    exact ⟨_, ftbool hLI.out.symm, .inl ⟨rfl, _, _, rfl⟩, fbelow_box _ _⟩
  · cases hnb : nodesB x r with
    | true => exact Try.Times_some x vn vm v r w hx hg hl hv hr0 hnb
    | false =>
      have hLI : Hid (decide (lateI x r < 0) = false) := by unfold Hid lateI; rw [if_neg hr0, if_pos hnb]; rfl
      have hTL : Hid (timesL x r = []) := by unfold Hid timesL; rw [hnb]; rfl
      have HX := Lib.hid hx
      have HQ : Hid (∀ W, HasIns W vn vm x → HasInts W v r → Calls Try.prog 37 #[insV x vn vm, v] W fun e w' => e = .returned (.bool false) ∧ Below W.heap.size W w') := fun W h k => hnb ▸ Try.allNodes_calls x vn vm v r W h hl k
      obtain ⟨an, cn, rfl, _⟩ := hx.nodes.dat
      obtain ⟨am, cm, rfl, _⟩ := hx.matrix.dat
      have HV := Lib.hid hv
      obtain ⟨ar, cr, rfl⟩ := hv.len
      have HR0 := Lib.hid (fbelow_box w (.cells #[.string x.name, .int .i64 x.kind, .int .i64 x.metric, .int .i64 x.scale, .int .i64 x.cap, .int .i64 x.fleet, .slice an x.nodes.length cn, .slice am x.matrix.length cm] 25))
      obtain ⟨n, hn⟩ : ∃ n, r.length = n := ⟨_, rfl⟩
      rw [hn] at hr0 HV HQ ⊢
      have hne : ((n : Int) == 0) = false := beq_eq_false_iff_ne.2 (by omega)
      unfold insV at HQ ⊢
      clear hx hv hn hg hnb
      go_enter Try.func20, Try.ntmps20
      go_wp2_with (go_at_call 37; (with_reducible refine (HQ.out _ (HX.out.next HR0.out) (HV.out.next HR0.out)).mono ?_); rintro e w1 ⟨rfl, hb1⟩)
      go_ret2
      exact ⟨_, ftbool hLI.out.symm, by rw [hTL.out]; exact .inl ⟨rfl, _, _, rfl⟩, HR0.out.trans (hb1.mono HR0.out.size)⟩
end Go.Proofs
/- The looks at a route: loads, times, pairs. Conditions: an instance that may be relied on; stops that are nodes; a million at most. -/
namespace Go.Proofs
open Go.RowKit Go.Shelf Go.Canon Go.Feas Go.Plans
attribute [local go_sem] Oper.semAt_some
attribute [local go_sem ↓] Go.wp_at_zero Go.wp_at_succ
theorem hasWrs_one (W : World) (a b c : Int) : HasWrs (W.alloc (.cells #[.int .i64 a, .int .i64 b, .int .i64 c] 59)) (.slice (some ⟨W.heap.size, 0, none⟩) 1 1) [(a, b, c)] := by
  refine .inr ⟨W.heap.size, 0, 1, rfl, Nat.le_refl _, by unfold maxLen; omega, by simp, fun i p hi => ?_⟩
  rcases i with _ | i
  · have e : (a, b, c) = p := by simpa using hi
    subst e
    have h := cells_wr W (.int .i64 a) (.int .i64 b) (.int .i64 c) 59
    exact ⟨h 0 _ rfl, h 1 _ rfl, h 2 _ rfl⟩
  · simp at hi
theorem hasWrs_none (W : World) : HasWrs W (.slice none 0 0) [] := .inl ⟨rfl, none, 0, rfl⟩
set_option maxRecDepth 100000 in
set_option maxHeartbeats 1000000 in
theorem Try.gloads_calls (x : Ins) (vn vm v : Value) (r : List Int) (i : Nat) (w : World) (hx : HasIns w vn vm x) (hg : Fine x) (hl : r.length ≤ 1000000) (hnb : nodesB x r = true) (hv : HasInts w v r) :
    Calls Try.prog 54 #[insV x vn vm, .int .i64 (i : Int), v] w fun e w' => ∃ v', e = .returned v' ∧ HasWrs w' v' (loadW x i r) ∧ Below w.heap.size w w' := by
  have HX := Lib.hid hx
  have HLD : Hid (∀ W, HasIns W vn vm x → HasInts W v r → Calls Try.prog 23 #[insV x vn vm, v] W fun e w' => ∃ v', e = .returned v' ∧ HasInts w' v' (loads x r) ∧ Below W.heap.size W w') := fun W h k => Try.Loads_calls x vn vm v r W h hg hl k
  have hll : (loads x r).length = r.length := by unfold loads; rw [hnb, if_pos rfl, loadsF_length]
  obtain ⟨an, cn, rfl, _⟩ := hx.nodes.dat
  obtain ⟨am, cm, rfl, _⟩ := hx.matrix.dat
  have HV := Lib.hid hv
  obtain ⟨ar, cr, rfl⟩ := hv.len
  obtain ⟨n, hn⟩ : ∃ n, r.length = n := ⟨_, rfl⟩
  rw [hn] at hl HV HLD hll ⊢
  have HN := Lib.hid hn
  unfold insV at HLD ⊢
  clear hx hv hn hg hnb
  generalize x.nodes.length = L at *
  generalize x.matrix.length = M at *
  have HB0 := Lib.hid (InsBox.new w x (.slice an L cn) (.slice am M cm) 91)
  have HR0 := Lib.hid (fbelow_box w (.cells #[.string x.name, .int .i64 x.kind, .int .i64 x.metric, .int .i64 x.scale, .int .i64 x.cap, .int .i64 x.fleet, .slice an L cn, .slice am M cm] 91))
  go_enter Try.func54, Try.ntmps54
  go_wp2_with (go_at_call 23; (with_reducible refine (HLD.out _ (HX.out.next HR0.out) (HV.out.next HR0.out)).mono ?_); rintro e w1 ⟨v1, rfl, hv1, hb1⟩; have HB1 := Lib.hid (HB0.out.next hb1); have HR1 := Lib.hid (HR0.out.trans (hb1.mono HR0.out.size)); have HV1 := Lib.hid hv1; obtain ⟨a1, n1, rfl⟩ := hv1.len; clear hv1 hb1)
  rw [hll] at HV1
  clear HB0 HR0 HLD HX
  go_loopw [13] (fun kk wr => ∃ k : Nat, k ≤ n ∧ kk = .int .i64 (k : Int) ∧ Hid (∀ (j : Nat) (u : Int), j < k → (loads x r)[j]? = some u → overB x u = false) ∧ InsBox wr w.heap.size x (.slice an L cn) (.slice am M cm) 91 ∧ Below w.heap.size w wr ∧ Below w1.heap.size w1 wr) (fun kk _ => n - (intOf kk).toNat)
  case atStart => exact ⟨0, Nat.zero_le _, rfl, Lib.hid (fun j u h => by omega), HB1.out, HR1.out, Below.refl _ _⟩
  case round =>
    obtain ⟨k, hk, rfl, hT, hB, hR, hS⟩ := hrel
    have HB := Lib.hid hB
    have HR := Lib.hid hR
    have HS := Lib.hid hS
    have c4 := hB.c 4
    clear hB hR hS
    by_cases hlt : k < n
    · obtain ⟨s, hs⟩ : ∃ s, r[k]? = some s := ⟨_, List.getElem?_eq_getElem (by have := HN.out; omega)⟩
      obtain ⟨u, hu⟩ : ∃ u, (loads x r)[k]? = some u := ⟨_, List.getElem?_eq_getElem (by omega)⟩
      have hki : (k : Int) < (n : Int) := by omega
      obtain ⟨b2, off2, cap, e, _, _, hbw2, hc⟩ := HV.out.atc hs
      rw [HN.out] at e
      injection e with h1 h2 h3
      subst h1
      subst h3
      clear h2
      obtain ⟨b3, off3, cap3, e, _, _, hbw3, hc3⟩ := HV1.out.atc hu
      rw [hll] at e
      injection e with h1 h2 h3
      subst h1
      subst h3
      clear h2
      have hc := (HR.out.cell (p := ⟨b2, off2 + k, none⟩) hbw2).trans hc
      have hc3 := (HS.out.cell (p := ⟨b3, off3 + k, none⟩) hbw3).trans hc3
      by_cases h1 : x.cap < u
      · have HF := Lib.hid (loadW_at (i := i) hT.out hu (by simp [overB, h1]) hs)
        clear hs hu hT
        go_wp2
        go_ret
        exact ⟨_, rfl, by rw [HF.out]; exact hasWrs_one wr _ _ _, HR.out.alloc HR.out.size _⟩
      · by_cases h2 : u < 0
        · have HF := Lib.hid (loadW_at (i := i) hT.out hu (by simp [overB, h2]) hs)
          clear hs hu hT
          go_wp2
          go_ret
          exact ⟨_, rfl, by rw [HF.out]; exact hasWrs_one wr _ _ _, HR.out.alloc HR.out.size _⟩
        · have HT2 : Hid (∀ (j : Nat) (u : Int), j < k + 1 → (loads x r)[j]? = some u → overB x u = false) := fun j y hj hy => by
            by_cases e : j = k
            · subst e; rw [hu] at hy; cases hy; simp [overB]; omega
            · exact hT.out j y (by omega) hy
          clear hs hu hT
          go_wp2
          go_roundw
          case rel => exact ⟨k + 1, by omega, by go_num, HT2, HB.out, HR.out, HS.out⟩
          case measure => simp [intOf]; omega
    · obtain rfl : k = n := by omega
      have HF : Hid (loadW x i r = []) := loadW_none fun j u hj => hT.out j u (by have := (List.getElem?_eq_some_iff.1 hj).1; omega) hj
      go_wp2
      go_ret
      exact ⟨_, rfl, by rw [HF.out]; exact hasWrs_none _, HR.out⟩
/-- A stop whose service begins too late. -/
def lateQ (x : Ins) (r : List Int) (j : Nat) : Prop := ∃ b s, (timesF x r).out[j]? = some b ∧ r[j]? = some s ∧ unit x * (nd x s).due < b
theorem lateQ_snoc {x : Ins} {r : List Int} {a : Int} {j : Nat} (hj : j < r.length) : lateQ x (r ++ [a]) j ↔ lateQ x r j := by
  unfold lateQ
  rw [timesF_snoc]
  have h1 : (timeStep x (timesF x r) a).out[j]? = (timesF x r).out[j]? := by
    show ((timesF x r).out ++ [begins x (timesF x r) a])[j]? = _
    rw [List.getElem?_append_left (by rw [timesF_length]; exact hj)]
  rw [h1, List.getElem?_append_left hj]
theorem lateQ_last {x : Ins} {r : List Int} {a : Int} : lateQ x (r ++ [a]) r.length ↔ unit x * (nd x a).due < begins x (timesF x r) a := by
  unfold lateQ
  rw [timesF_snoc]
  have h1 : (timeStep x (timesF x r) a).out[r.length]? = some (begins x (timesF x r) a) := by
    show ((timesF x r).out ++ [begins x (timesF x r) a])[r.length]? = _
    rw [List.getElem?_append_right (by rw [timesF_length]; exact Nat.le_refl _), timesF_length, Nat.sub_self]; rfl
  rw [h1, List.getElem?_append_right (Nat.le_refl _), Nat.sub_self]
  constructor
  · rintro ⟨b, s, e1, e2, h⟩
    have e1 := Option.some.inj e1
    have e2 : a = s := Option.some.inj e2
    subst e1; subst e2; exact h
  · exact fun h => ⟨_, a, rfl, rfl, h⟩
theorem lateQ_lt {x : Ins} {r : List Int} {j : Nat} (h : lateQ x r j) : j < r.length := by
  obtain ⟨b, s, _, h2, _⟩ := h
  exact (List.getElem?_eq_some_iff.1 h2).1
theorem late_first (x : Ins) (r : List Int) : ((timesF x r).late = -1 ∧ ∀ j, ¬ lateQ x r j) ∨ ∃ j : Nat, (timesF x r).late = (j : Int) ∧ lateQ x r j ∧ ∀ q, q < j → ¬ lateQ x r q := by
  refine snoc_ind (P := fun r => ((timesF x r).late = -1 ∧ ∀ j, ¬ lateQ x r j) ∨ ∃ j : Nat, (timesF x r).late = (j : Int) ∧ lateQ x r j ∧ ∀ q, q < j → ¬ lateQ x r q) (.inl ⟨rfl, fun j h => by have := lateQ_lt h; simp at this⟩) (fun l a ih => ?_) r
  have hl : (timesF x (l ++ [a])).late = if (timesF x l).late < 0 ∧ unit x * (nd x a).due < begins x (timesF x l) a then ((timesF x l).out.length : Int) else (timesF x l).late := by rw [timesF_snoc]; rfl
  rcases ih with ⟨h1, h2⟩ | ⟨j, h1, h2, h3⟩
  · by_cases h : unit x * (nd x a).due < begins x (timesF x l) a
    · rw [if_pos ⟨by omega, h⟩, timesF_length] at hl
      exact .inr ⟨l.length, hl, lateQ_last.2 h, fun q hq hh => h2 q ((lateQ_snoc hq).1 hh)⟩
    · rw [if_neg (fun e : _ ∧ _ => h e.2)] at hl
      refine .inl ⟨hl.trans h1, fun j hh => ?_⟩
      have := lateQ_lt hh
      rw [List.length_append, List.length_singleton] at this
      by_cases e : j = l.length
      · subst e; exact h (lateQ_last.1 hh)
      · exact h2 j ((lateQ_snoc (by omega)).1 hh)
  · rw [if_neg (fun e : _ ∧ _ => by omega)] at hl
    have hj := lateQ_lt h2
    exact .inr ⟨j, hl.trans h1, (lateQ_snoc hj).2 h2, fun q hq hh => h3 q hq ((lateQ_snoc (by omega)).1 hh)⟩
theorem lateW_at {x : Ins} {i : Nat} {r : List Int} {k : Nat} {b s : Int} (hnb : nodesB x r = true) (h : ∀ j, j < k → ¬ lateQ x r j) (hb : (timesF x r).out[k]? = some b) (hs : r[k]? = some s) (hlt : unit x * (nd x s).due < b) : lateW x i r = [(6, (i : Int), s)] := by
  have hq : lateQ x r k := ⟨b, s, hb, hs, hlt⟩
  have hk := lateQ_lt hq
  have hI : lateI x r = (k : Int) := by
    rcases late_first x r with ⟨_, h2⟩ | ⟨j, h1, h2, h3⟩
    · exact absurd hq (h2 k)
    · have hj : j = k := by
        rcases Nat.lt_trichotomy j k with e | e | e
        · exact absurd h2 (h j e)
        · exact e
        · exact absurd hq (h3 k e)
      subst hj
      unfold lateI
      rw [if_neg (by omega), if_neg (by rw [hnb]; decide), if_neg (fun e : _ ∧ _ => by omega), h1]
  unfold lateW
  rw [hI, if_pos ⟨by omega, by omega⟩, Int.toNat_natCast]
  simp [List.getD, hs]
theorem lateW_back {x : Ins} {i : Nat} {r : List Int} (hnb : nodesB x r = true) (h : ∀ j, ¬ lateQ x r j) (hn : ¬ lateI x r < 0) : lateW x i r = [(6, (i : Int), 0)] := by
  have hI : lateI x r = (r.length : Int) := by
    rcases late_first x r with ⟨h1, _⟩ | ⟨j, _, h2, _⟩
    · unfold lateI at hn ⊢
      by_cases h0 : r.length = 0
      · rw [if_pos h0] at hn; omega
      · rw [if_neg h0, if_neg (by rw [hnb]; decide)] at hn ⊢
        by_cases hb : (timesF x r).late < 0 ∧ back x (timesF x r) = true
        · rw [if_pos hb]
        · rw [if_neg hb] at hn; omega
    · exact absurd h2 (h j)
  unfold lateW
  rw [hI, if_neg (by omega), if_pos rfl]
theorem lateW_time {x : Ins} {i : Nat} {r : List Int} (hn : lateI x r < 0) : lateW x i r = [] := by
  unfold lateW
  rw [if_neg (by omega), if_neg (by omega)]
/-- An instance in a box, a stop's cell that came in: in whatever comes behind. -/
structure GtS (B : Nat) (x : Ins) (vn vm : Value) (b o : Nat) (s : Int) (w W : World) : Prop where
  box : InsBox W B x vn vm 25
  st : w.cell? ⟨b, o, none⟩ = some (.int .i64 s)
  lt : b < w.heap.size
  below : Below w.heap.size w W
theorem GtS.next {B : Nat} {x : Ins} {vn vm : Value} {b o : Nat} {s : Int} {w W W' : World} (h : GtS B x vn vm b o s w W) (hb : Below W.heap.size W W') : GtS B x vn vm b o s w W' := ⟨h.box.next hb, h.st, h.lt, h.below.trans (hb.mono h.below.size)⟩
theorem GtS.drew {B : Nat} {x : Ins} {vn vm : Value} {b o : Nat} {s : Int} {w W : World} (h : GtS B x vn vm b o s w W) : GtS B x vn vm b o s w W.drew := ⟨h.box, h.st, h.lt, h.below.drew⟩
theorem gtS_S {B : Nat} {x : Ins} {vn vm : Value} {b o : Nat} {s : Int} {w W : World} (h : GtS B x vn vm b o s w W) : W.cell? ⟨B, 0, none⟩ = some (.string x.name) ∧ W.cell? ⟨B, 1, none⟩ = some (.int .i64 x.kind) ∧ W.cell? ⟨B, 2, none⟩ = some (.int .i64 x.metric) ∧ W.cell? ⟨B, 3, none⟩ = some (.int .i64 x.scale) ∧ W.cell? ⟨B, 4, none⟩ = some (.int .i64 x.cap) ∧ W.cell? ⟨B, 5, none⟩ = some (.int .i64 x.fleet) ∧ W.cell? ⟨B, 6, none⟩ = some vn ∧ W.cell? ⟨B, 7, none⟩ = some vm ∧ W.cell? ⟨b, o, none⟩ = some (.int .i64 s) ∧ GtS B x vn vm b o s w W := by
  obtain ⟨c0, c1, c2, c3, c4, c5, c6, c7⟩ := h.box.cells
  exact ⟨c0, c1, c2, c3, c4, c5, c6, c7, (h.below.cell (p := ⟨b, o, none⟩) h.lt).trans h.st, h⟩
set_option maxRecDepth 100000 in
set_option maxHeartbeats 1000000 in
theorem Try.gtimes_calls (x : Ins) (vn vm v : Value) (r : List Int) (i : Nat) (w : World) (hx : HasIns w vn vm x) (hg : Fine x) (hl : r.length ≤ 1000000) (hnb : nodesB x r = true) (hv : HasInts w v r) :
    Calls Try.prog 53 #[insV x vn vm, .int .i64 (i : Int), v] w fun e w' => ∃ v', e = .returned v' ∧ HasWrs w' v' (lateW x i r) ∧ Below w.heap.size w w' := by
  have HX := Lib.hid hx
  have HLD : Hid (∀ W, HasIns W vn vm x → HasInts W v r → Calls Try.prog 20 #[insV x vn vm, v] W fun e w' => ∃ v', e = .returned (.tuple #[v', .bool (decide (lateI x r < 0))]) ∧ HasInts w' v' (timesL x r) ∧ Below W.heap.size W w') := fun W h k => Try.Times_calls x vn vm v r W h hg hl k
  have HLA := Lib.hid fun m t W h hm => Try.late_calls x vn vm m t W h hg hm
  have htl : timesL x r = (timesF x r).out := by unfold timesL; rw [hnb]; rfl
  have hll : (timesF x r).out.length = r.length := timesF_length x r
  rw [htl] at HLD
  obtain ⟨an, cn, rfl, _⟩ := hx.nodes.dat
  obtain ⟨am, cm, rfl, _⟩ := hx.matrix.dat
  have HV := Lib.hid hv
  obtain ⟨ar, cr, rfl⟩ := hv.len
  obtain ⟨n, hn⟩ : ∃ n, r.length = n := ⟨_, rfl⟩
  rw [hn] at hl HV HLD hll ⊢
  have HN := Lib.hid hn
  have HT := Lib.hid hnb
  have HLL := Lib.hid hll
  unfold insV at HLD HLA ⊢
  clear hx hv hn hg hnb htl hll
  generalize hL : x.nodes.length = L at *
  have HLE := Lib.hid hL
  generalize x.matrix.length = M at *
  have HR0 := Lib.hid (below_two w (.cells #[.string x.name, .int .i64 x.kind, .int .i64 x.metric, .int .i64 x.scale, .int .i64 x.cap, .int .i64 x.fleet, .slice an L cn, .slice am M cm] 91) (.cells #[.string x.name, .int .i64 x.kind, .int .i64 x.metric, .int .i64 x.scale, .int .i64 x.cap, .int .i64 x.fleet, .slice an L cn, .slice am M cm] 25))
  have HB0 : Hid (InsBox ((w.alloc (.cells #[.string x.name, .int .i64 x.kind, .int .i64 x.metric, .int .i64 x.scale, .int .i64 x.cap, .int .i64 x.fleet, .slice an L cn, .slice am M cm] 91)).alloc (.cells #[.string x.name, .int .i64 x.kind, .int .i64 x.metric, .int .i64 x.scale, .int .i64 x.cap, .int .i64 x.fleet, .slice an L cn, .slice am M cm] 25)) (w.heap.size + 1) x (.slice an L cn) (.slice am M cm) 25) := by
    have h := InsBox.new (w.alloc (.cells #[.string x.name, .int .i64 x.kind, .int .i64 x.metric, .int .i64 x.scale, .int .i64 x.cap, .int .i64 x.fleet, .slice an L cn, .slice am M cm] 91)) x (.slice an L cn) (.slice am M cm) 25
    exact Lib.hid (by simpa using h)
  clear hL
  cases hli : decide (lateI x r < 0) with
  | true =>
    rw [hli] at HLD
    have HF := Lib.hid (lateW_time (i := i) (of_decide_eq_true hli))
    clear hli
    go_enter Try.func53, Try.ntmps53
    go_wp2_with (go_at_call 20; (with_reducible refine (HLD.out _ (HX.out.next HR0.out) (HV.out.next HR0.out)).mono ?_); rintro e w1 ⟨v1, rfl, hv1, hb1⟩; have HR1 := Lib.hid (HR0.out.trans (hb1.mono HR0.out.size)); clear hb1)
    go_ret
    exact ⟨_, rfl, by rw [HF.out]; exact hasWrs_none _, HR1.out⟩
  | false =>
    rw [hli] at HLD
    have HNL := Lib.hid (of_decide_eq_false hli)
    clear hli
    go_enter Try.func53, Try.ntmps53
    go_wp2_with (go_at_call 20; (with_reducible refine (HLD.out _ (HX.out.next HR0.out) (HV.out.next HR0.out)).mono ?_); rintro e w1 ⟨v1, rfl, hv1, hb1⟩; have HB1 := Lib.hid (HB0.out.next hb1); have HR1 := Lib.hid (HR0.out.trans (hb1.mono HR0.out.size)); have HV1 := Lib.hid hv1; obtain ⟨a1, n1, rfl⟩ := hv1.len; clear hv1 hb1)
    rw [HLL.out] at HV1 ⊢
    clear HB0 HR0 HLD
    go_loopw [22] (fun kk wr => ∃ k : Nat, k ≤ n ∧ kk = .int .i64 (k : Int) ∧ Hid (∀ j, j < k → ¬ lateQ x r j) ∧ InsBox wr (w.heap.size + 1) x (.slice an L cn) (.slice am M cm) 25 ∧ Below w.heap.size w wr ∧ Below w1.heap.size w1 wr) (fun kk _ => n - (intOf kk).toNat)
    case atStart => exact ⟨0, Nat.zero_le _, rfl, Lib.hid (fun j h => by omega), HB1.out, HR1.out, Below.refl _ _⟩
    case round =>
      obtain ⟨k, hk, rfl, hT, hB, hR, hS⟩ := hrel
      have HB := Lib.hid hB
      have HR := Lib.hid hR
      have HS := Lib.hid hS
      clear hB hR hS
      by_cases hlt : k < n
      · obtain ⟨s, hs⟩ : ∃ s, r[k]? = some s := ⟨_, List.getElem?_eq_getElem (by have := HN.out; omega)⟩
        obtain ⟨u, hu⟩ : ∃ u, (timesF x r).out[k]? = some u := ⟨_, List.getElem?_eq_getElem (by have := HLL.out; omega)⟩
        have hki : (k : Int) < (n : Int) := by omega
        obtain ⟨b2, off2, cap, e, _, _, hbw2, hc⟩ := HV.out.atc hs
        rw [HN.out] at e
        injection e with h1 h2 h3
        subst h1
        subst h3
        clear h2
        obtain ⟨b3, off3, cap3, e, _, _, hbw3, hc3⟩ := HV1.out.atc hu
        rw [HLL.out] at e
        injection e with h1 h2 h3
        subst h1
        subst h3
        clear h2
        have hc3 := (HS.out.cell (p := ⟨b3, off3 + k, none⟩) hbw3).trans hc3
        have hsn := nodeB_lt (nodesB_at HT.out hs)
        obtain ⟨m, rfl⟩ : ∃ m : Nat, s = (m : Int) := ⟨s.toNat, by omega⟩
        simp only [Int.toNat_natCast] at hsn
        have HLT := Lib.hid fun t W h => HLA.out m t W h (by have := HLE.out; omega)
        have HGT : Hid (GtS (w.heap.size + 1) x (.slice an L cn) (.slice am M cm) b2 (off2 + k) (m : Int) w wr) := ⟨HB.out, hc, hbw2, HR.out⟩
        have HQK : Hid (lateQ x r k ↔ unit x * (at' x m).due < u) := by
          unfold Hid lateQ
          rw [hu, hs]
          constructor
          · rintro ⟨b, s, e1, e2, h⟩
            cases e1; cases e2
            unfold nd at h; rw [Int.toNat_natCast] at h; exact h
          · intro h
            exact ⟨u, m, rfl, rfl, by unfold nd; rw [Int.toNat_natCast]; exact h⟩
        have HFA := Lib.hid fun h => lateW_at (i := i) HT.out hT.out hu hs h
        unfold nd at HFA
        simp only [Int.toNat_natCast] at HFA
        have hc' := (HR.out.cell (p := ⟨b2, off2 + k, none⟩) hbw2).trans hc
        clear hs hu hc hsn
        generalize unit x * (at' x m).due = ud at *
        go_wp2_with (fail)
        go_region_held3 (fun W => W.cell? ⟨w.heap.size + 1, 0, none⟩ = some (.string x.name) ∧ W.cell? ⟨w.heap.size + 1, 1, none⟩ = some (.int .i64 x.kind) ∧ W.cell? ⟨w.heap.size + 1, 2, none⟩ = some (.int .i64 x.metric) ∧ W.cell? ⟨w.heap.size + 1, 3, none⟩ = some (.int .i64 x.scale) ∧ W.cell? ⟨w.heap.size + 1, 4, none⟩ = some (.int .i64 x.cap) ∧ W.cell? ⟨w.heap.size + 1, 5, none⟩ = some (.int .i64 x.fleet) ∧ W.cell? ⟨w.heap.size + 1, 6, none⟩ = some (.slice an L cn) ∧ W.cell? ⟨w.heap.size + 1, 7, none⟩ = some (.slice am M cm) ∧ W.cell? ⟨b2, off2 + k, none⟩ = some (.int .i64 (m : Int)) ∧ GtS (w.heap.size + 1) x (.slice an L cn) (.slice am M cm) b2 (off2 + k) (m : Int) w W)
          ((go_split_ands; (first | exact gtS_S HGT.out.drew | exact gtS_S (GtS.next HGT.out.drew (by assumption)) | exact gtS_S (by assumption))))
          ((go_at_call 41; (with_reducible refine (HLT.out _ _ (HX.out.next HGT.out.drew.below)).mono ?_); rintro e w6 ⟨rfl, hb6⟩))
        have T := (show _ ∧ _ ∧ _ ∧ _ ∧ _ ∧ _ ∧ _ ∧ _ ∧ _ ∧ GtS (w.heap.size + 1) x (.slice an L cn) (.slice am M cm) b2 (off2 + k) (m : Int) w w6 by assumption).2.2.2.2.2.2.2.2.2
        have HG6 := Lib.hid T
        have hb6 := (show Below wr.drew.heap.size wr.drew w6 by assumption)
        have HS6 : Hid (Below w1.heap.size w1 w6) := HS.out.drew.trans (hb6.mono HS.out.size)
        have hc6 := (gtS_S T).2.2.2.2.2.2.2.2.1
        rename_i hh
        clear hh T hb6 hc' hc3
        by_cases h1 : ud < u
        · have HF := Lib.hid (HFA.out h1)
          go_wp2
          go_ret
          exact ⟨_, rfl, by rw [HF.out]; exact hasWrs_one w6 _ _ _, HG6.out.below.alloc HG6.out.below.size _⟩
        · have HT2 : Hid (∀ j, j < k + 1 → ¬ lateQ x r j) := fun j hj hq => by
            by_cases e : j = k
            · subst e; exact h1 (HQK.out.1 hq)
            · exact hT.out j (by omega) hq
          go_wp2
          go_roundw
          case rel => exact ⟨k + 1, by omega, by go_num, HT2, HG6.out.box, HG6.out.below, HS6.out⟩
          case measure => simp [intOf]; omega
      · obtain rfl : k = n := by omega
        have HF : Hid (lateW x i r = [(6, (i : Int), 0)]) := lateW_back HT.out (fun j hq => hT.out j (by have := lateQ_lt hq; have := HN.out; omega) hq) (fun e => by have := HNL.out; omega)
        go_wp2
        go_ret
        exact ⟨_, rfl, by rw [HF.out]; exact hasWrs_one wr _ _ _, HR.out.alloc HR.out.size _⟩
end Go.Proofs
