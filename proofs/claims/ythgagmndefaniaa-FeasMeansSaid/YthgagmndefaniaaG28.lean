/- slices.Reverse at looks, three of them at most. -/
import Derived.Test.YthgagmndefaniaaG27
import Derived.Test.YthgagmndefaniaaG05
namespace Go.Proofs
open Go.RowKit Go.Shelf Go.Canon Go.Feas Go.Plans
attribute [local go_sem] Oper.semAt_some
attribute [local go_sem ↓] Go.wp_at_zero Go.wp_at_succ
theorem own_cell {W : World} {base : Nat} {e : TypeId} {g n cap : Nat} {xs : List Value} (h : W.ownsRow base e 1 (.slice (some ⟨g, 0, none⟩) n cap) n xs) {j : Nat} {u : Value} (hx : xs[j]? = some u) : W.cell? ⟨g, j, none⟩ = some u := by
  have h2 := h.cells (g := g) rfl j u hx
  rw [Addr.add_lit, Nat.zero_add] at h2
  exact h2
set_option maxRecDepth 100000 in
theorem Try.reverse0_calls (w : World) : Calls Try.prog 55 #[.slice none 0 0] w fun e w' => e = .returned (.tuple #[]) ∧ w' = w := by
  go_enter Try.func55, Try.ntmps55
  go_wp2_with (fail)
  go_loopw [2, 3] (fun i j wr => i = .int .i64 0 ∧ j = .int .i64 (-1) ∧ w = wr) (fun i _ _ => 2 - (intOf i).toNat)
  case atStart => exact ⟨rfl, rfl, rfl⟩
  case round =>
    obtain ⟨rfl, rfl, rfl⟩ := hrel
    go_wp2
    exact bodyPost_end (v := .tuple #[]) (by simp [results, Try.results55, go_sem]) rfl ⟨rfl, rfl⟩
set_option maxRecDepth 100000 in
theorem Try.reverse1_calls (fa : Fn) (ua va : Array Value) (base g cap : Nat) (w : World) (ho : w.ownsRow base 65 1 (.slice (some ⟨g, 0, none⟩) 1 cap) 1 [.func fa ua va]) :
    Calls Try.prog 55 #[.slice (some ⟨g, 0, none⟩) 1 cap] w fun e w' => e = .returned (.tuple #[]) ∧ w'.ownsRow base 65 1 (.slice (some ⟨g, 0, none⟩) 1 cap) 1 [.func fa ua va] ∧ w.grownBy w' (some g) := by
  have HO := Lib.hid ho
  clear ho
  go_enter Try.func55, Try.ntmps55
  go_wp2_with (fail)
  go_loopw [2, 3] (fun i j wr => i = .int .i64 0 ∧ j = .int .i64 (0) ∧ w = wr) (fun i _ _ => 2 - (intOf i).toNat)
  case atStart => exact ⟨rfl, rfl, rfl⟩
  case round =>
    obtain ⟨rfl, rfl, rfl⟩ := hrel
    go_wp2
    exact bodyPost_end (v := .tuple #[]) (by simp [results, Try.results55, go_sem]) rfl ⟨rfl, HO.out, ⟨rfl, rfl, rfl, Nat.le_refl _, fun _ _ _ => rfl⟩⟩
set_option maxRecDepth 100000 in
theorem Try.reverse2_calls (fa fb : Fn) (ua va ub vb : Array Value) (base g cap : Nat) (w : World) (ho : w.ownsRow base 65 1 (.slice (some ⟨g, 0, none⟩) 2 cap) 2 [.func fa ua va, .func fb ub vb]) :
    Calls Try.prog 55 #[.slice (some ⟨g, 0, none⟩) 2 cap] w fun e w' => e = .returned (.tuple #[]) ∧ w'.ownsRow base 65 1 (.slice (some ⟨g, 0, none⟩) 2 cap) 2 [.func fb ub vb, .func fa ua va] ∧ w.grownBy w' (some g) := by
  have HO := Lib.hid ho
  have c0 := own_cell ho (j := 0) rfl
  have c1 := own_cell ho (j := 1) rfl
  have f0 := World.ownsRow.frozenAt ho 0
  have f1 := World.ownsRow.frozenAt ho 1
  clear ho
  go_enter Try.func55, Try.ntmps55
  go_wp2_with (fail)
  go_loopw [2, 3] (fun i j wr => (i = .int .i64 0 ∧ j = .int .i64 1 ∧ w = wr) ∨ (i = .int .i64 1 ∧ j = .int .i64 0 ∧ wr.ownsRow base 65 1 (.slice (some ⟨g, 0, none⟩) 2 cap) 2 [.func fb ub vb, .func fa ua va] ∧ w.grownBy wr (some g))) (fun i _ _ => 2 - (intOf i).toNat)
  case atStart => exact .inl ⟨rfl, rfl, rfl⟩
  case round =>
    rcases hrel with ⟨rfl, rfl, rfl⟩ | ⟨rfl, rfl, hO, hG⟩
    · go_wp2_with (fail)
      go_region
      obtain ⟨V, hV⟩ : ∃ V, V = ((w.setCell ⟨g, 0, none⟩ (.func fb ub vb)).setCell ⟨g, 1, none⟩ (.func fa ua va)).drew := ⟨_, rfl⟩
      have H1 : Hid (V.ownsRow base 65 1 (.slice (some ⟨g, 0, none⟩) 2 cap) 2 [.func fb ub vb, .func fa ua va]) := by
        rw [hV]; exact (World.ownsRow.stored (World.ownsRow.stored HO.out 0 (.func fb ub vb)).1 1 (.func fa ua va)).1
      have H2 : Hid (w.grownBy V (some g)) := by
        have h := (pgrownBy_setAt w g 0 (.func fb ub vb)).trans (pgrownBy_setAt (w.setCell ⟨g, 0, none⟩ (.func fb ub vb)) g 1 (.func fa ua va))
        rw [hV]; exact ⟨h.os, h.tape, h.output, h.size, h.block⟩
      rw [← hV]
      clear hV c0 c1 f0 f1 HO
      go_wp2
      go_roundw
      case rel => exact .inr ⟨rfl, rfl, H1.out, H2.out⟩
      case measure => simp [intOf]
    · have HO2 := Lib.hid hO
      have HG2 := Lib.hid hG
      clear hO hG c0 c1 f0 f1
      go_wp2
      exact bodyPost_end (v := .tuple #[]) (by simp [results, Try.results55, go_sem]) rfl ⟨rfl, HO2.out, HG2.out⟩
set_option maxRecDepth 100000 in
theorem Try.reverse3_calls (fa fb fc : Fn) (ua va ub vb uc vc : Array Value) (base g cap : Nat) (w : World) (ho : w.ownsRow base 65 1 (.slice (some ⟨g, 0, none⟩) 3 cap) 3 [.func fa ua va, .func fb ub vb, .func fc uc vc]) :
    Calls Try.prog 55 #[.slice (some ⟨g, 0, none⟩) 3 cap] w fun e w' => e = .returned (.tuple #[]) ∧ w'.ownsRow base 65 1 (.slice (some ⟨g, 0, none⟩) 3 cap) 3 [.func fc uc vc, .func fb ub vb, .func fa ua va] ∧ w.grownBy w' (some g) := by
  have HO := Lib.hid ho
  have c0 := own_cell ho (j := 0) rfl
  have c1 := own_cell ho (j := 2) rfl
  have f0 := World.ownsRow.frozenAt ho 0
  have f1 := World.ownsRow.frozenAt ho 2
  clear ho
  go_enter Try.func55, Try.ntmps55
  go_wp2_with (fail)
  go_loopw [2, 3] (fun i j wr => (i = .int .i64 0 ∧ j = .int .i64 2 ∧ w = wr) ∨ (i = .int .i64 1 ∧ j = .int .i64 1 ∧ wr.ownsRow base 65 1 (.slice (some ⟨g, 0, none⟩) 3 cap) 3 [.func fc uc vc, .func fb ub vb, .func fa ua va] ∧ w.grownBy wr (some g))) (fun i _ _ => 2 - (intOf i).toNat)
  case atStart => exact .inl ⟨rfl, rfl, rfl⟩
  case round =>
    rcases hrel with ⟨rfl, rfl, rfl⟩ | ⟨rfl, rfl, hO, hG⟩
    · go_wp2_with (fail)
      go_region
      obtain ⟨V, hV⟩ : ∃ V, V = ((w.setCell ⟨g, 0, none⟩ (.func fc uc vc)).setCell ⟨g, 2, none⟩ (.func fa ua va)).drew := ⟨_, rfl⟩
      have H1 : Hid (V.ownsRow base 65 1 (.slice (some ⟨g, 0, none⟩) 3 cap) 3 [.func fc uc vc, .func fb ub vb, .func fa ua va]) := by
        rw [hV]; exact (World.ownsRow.stored (World.ownsRow.stored HO.out 0 (.func fc uc vc)).1 2 (.func fa ua va)).1
      have H2 : Hid (w.grownBy V (some g)) := by
        have h := (pgrownBy_setAt w g 0 (.func fc uc vc)).trans (pgrownBy_setAt (w.setCell ⟨g, 0, none⟩ (.func fc uc vc)) g 2 (.func fa ua va))
        rw [hV]; exact ⟨h.os, h.tape, h.output, h.size, h.block⟩
      rw [← hV]
      clear hV c0 c1 f0 f1 HO
      go_wp2
      go_roundw
      case rel => exact .inr ⟨rfl, rfl, H1.out, H2.out⟩
      case measure => simp [intOf]
    · have HO2 := Lib.hid hO
      have HG2 := Lib.hid hG
      clear hO hG c0 c1 f0 f1
      go_wp2
      exact bodyPost_end (v := .tuple #[]) (by simp [results, Try.results55, go_sem]) rfl ⟨rfl, HO2.out, HG2.out⟩
end Go.Proofs
/- Which looks there are at each route. Conditions: an instance that may be relied on. -/
namespace Go.Proofs
open Go.RowKit Go.Shelf Go.Canon Go.Feas Go.Plans
attribute [local go_sem] Oper.semAt_some
attribute [local go_sem ↓] Go.wp_at_zero Go.wp_at_succ
theorem Try.info65 : (Try.prog.info? 65).map (fun i => (i.zero, i.size, i.bytes)) = some (some .nilFunc, 1, 8) := by kernel_rfl
/-- A method of an instance. -/
def lookV (f : Nat) (x : Ins) (vn vm : Value) : Value := .func (.func f) #[insV x vn vm] #[]
def looksN (k : Int) : List Nat := if k = 1 then [] else if k = 4 then [54, 53, 52] else if k = 3 then [54, 53] else [54]
theorem two_boxes (w : World) (x : Ins) (vn vm : Value) : Below w.heap.size w ((w.alloc (.cells #[.string x.name, .int .i64 x.kind, .int .i64 x.metric, .int .i64 x.scale, .int .i64 x.cap, .int .i64 x.fleet, vn, vm] 25)).alloc (.cells #[.string x.name, .int .i64 x.kind, .int .i64 x.metric, .int .i64 x.scale, .int .i64 x.cap, .int .i64 x.fleet, vn, vm] 91)) := below_two w _ _
structure LkS (w : World) (x : Ins) (vn vm : Value) (o : Value) (n : Nat) (xs : List Value) (W : World) : Prop where
  box : InsBox W (w.heap.size + 1) x vn vm 91
  below : Below w.heap.size w W
  row : W.ownsRow (w.heap.size + 2) 65 1 o n xs
theorem LkS.next {w W W' : World} {x : Ins} {vn vm o : Value} {n : Nat} {xs : List Value} (h : LkS w x vn vm o n xs W) (hb : Below W.heap.size W W') : LkS w x vn vm o n xs W' := ⟨h.box.next hb, h.below.trans (hb.mono h.below.size), fowns_next h.row hb⟩
theorem LkS.alloc {w W : World} {x : Ins} {vn vm o : Value} {n : Nat} {xs : List Value} (h : LkS w x vn vm o n xs W) (ob : Obj) : LkS w x vn vm o n xs (W.alloc ob) := h.next (fbelow_box W ob)
theorem LkS.grow {w W W' : World} {x : Ins} {vn vm o o' : Value} {n n' : Nat} {xs xs' : List Value} (h : LkS w x vn vm o n xs W) (hg : W.grownBy W' o.ownBlock) (hr : W'.ownsRow (w.heap.size + 2) 65 1 o' n' xs') : LkS w x vn vm o' n' xs' W' :=
  ⟨h.box.grown (Nat.lt_succ_self _) h.row hg, fgrown_below h.below h.below.size (by omega) h.row hg, hr⟩
theorem lkS_start (w : World) (x : Ins) (vn vm : Value) : LkS w x vn vm (.slice none 0 0) 0 [] ((w.alloc (.cells #[.string x.name, .int .i64 x.kind, .int .i64 x.metric, .int .i64 x.scale, .int .i64 x.cap, .int .i64 x.fleet, vn, vm] 25)).alloc (.cells #[.string x.name, .int .i64 x.kind, .int .i64 x.metric, .int .i64 x.scale, .int .i64 x.cap, .int .i64 x.fleet, vn, vm] 91)) := by
  have h := InsBox.new (w.alloc (.cells #[.string x.name, .int .i64 x.kind, .int .i64 x.metric, .int .i64 x.scale, .int .i64 x.cap, .int .i64 x.fleet, vn, vm] 25)) x vn vm 91
  rw [World.size_alloc] at h
  exact ⟨h, two_boxes w x vn vm, owns_nil _ _ _ _⟩
set_option maxRecDepth 100000 in
set_option maxHeartbeats 1000000 in
theorem Try.looksOf_calls (x : Ins) (vn vm : Value) (w : World) (hx : HasIns w vn vm x) (hg : Fine x) :
    Calls Try.prog 33 #[insV x vn vm] w fun e w' => ∃ v, e = .returned v ∧ w'.ownsRow w.heap.size 65 1 v (looksN x.kind).length ((looksN x.kind).map fun f => lookV f x vn vm) ∧ Below w.heap.size w w' := by
  obtain ⟨i0, hio, hz0, hz1, hz2⟩ := info_parts Try.info65
  have HI := Lib.hid hio
  have hk := hg.kind
  obtain ⟨an, cn, rfl, _⟩ := hx.nodes.dat
  obtain ⟨am, cm, rfl, _⟩ := hx.matrix.dat
  unfold lookV insV
  clear hx hg hio
  generalize x.nodes.length = L at *
  generalize x.matrix.length = M at *
  have HB0 := Lib.hid (two_boxes w x (.slice an L cn) (.slice am M cm))
  have HR0 : Hid (∀ W : World, W.ownsRow w.heap.size 65 1 (.slice none 0 0) 0 []) := fun W => owns_nil W _ _ _
  have R0 := Lib.hid fun W => Try.reverse0_calls W
  have hs0 : w.heap.size ≤ ((w.alloc (.cells #[.string x.name, .int .i64 x.kind, .int .i64 x.metric, .int .i64 x.scale, .int .i64 x.cap, .int .i64 x.fleet, .slice an L cn, .slice am M cm] 25)).alloc (.cells #[.string x.name, .int .i64 x.kind, .int .i64 x.metric, .int .i64 x.scale, .int .i64 x.cap, .int .i64 x.fleet, .slice an L cn, .slice am M cm] 91)).heap.size := HB0.out.size
  by_cases k1 : x.kind = 1
  · have e : looksN x.kind = [] := by unfold looksN; rw [if_pos k1]
    rw [e]
    have kb : (x.kind == 1) = true := beq_iff_eq.2 k1
    clear k1 e hk
    go_enter Try.func33, Try.ntmps33
    go_wp2_with (go_at_call 55; (with_reducible refine (R0.out _).mono ?_); rintro e w1 ⟨rfl, rfl⟩)
    go_ret
    exact ⟨_, rfl, HR0.out _, HB0.out⟩
  · have kb1 : (x.kind == 1) = false := beq_eq_false_iff_ne.2 k1
    have HS0 := Lib.hid (lkS_start w x (.slice an L cn) (.slice am M cm))
    have hs2 := HS0.out.box.lt
    clear hs0
    by_cases k4 : x.kind = 4
    · have e : looksN x.kind = [54, 53, 52] := by unfold looksN; rw [if_neg k1, if_pos k4]
      rw [e]
      have kb : (x.kind == 4) = true := beq_iff_eq.2 k4
      clear k1 k4 e hk
      have HRV := Lib.hid fun B g cap W h => Try.reverse3_calls (.func 52) (.func 53) (.func 54) #[.agg #[.string x.name, .int .i64 x.kind, .int .i64 x.metric, .int .i64 x.scale, .int .i64 x.cap, .int .i64 x.fleet, .slice an L cn, .slice am M cm]] #[] #[.agg #[.string x.name, .int .i64 x.kind, .int .i64 x.metric, .int .i64 x.scale, .int .i64 x.cap, .int .i64 x.fleet, .slice an L cn, .slice am M cm]] #[] #[.agg #[.string x.name, .int .i64 x.kind, .int .i64 x.metric, .int .i64 x.scale, .int .i64 x.cap, .int .i64 x.fleet, .slice an L cn, .slice am M cm]] #[] B g cap W h
      obtain ⟨c0, c1, c2, c3, c4, c5, c6, c7⟩ := HS0.out.box.cells
      go_enter Try.func33, Try.ntmps33
      go_upto_region 3 with (fail)
      clear c0 c1 c2 c3 c4 c5 c6 c7
      obtain ⟨V, hV⟩ : ∃ V, V = ((w.alloc (.cells #[.string x.name, .int .i64 x.kind, .int .i64 x.metric, .int .i64 x.scale, .int .i64 x.cap, .int .i64 x.fleet, .slice an L cn, .slice am M cm] 25)).alloc (.cells #[.string x.name, .int .i64 x.kind, .int .i64 x.metric, .int .i64 x.scale, .int .i64 x.cap, .int .i64 x.fleet, .slice an L cn, .slice am M cm] 91)) := ⟨_, rfl⟩
      have HK0 : Hid (InsBox V w.heap.size x (.slice an L cn) (.slice am M cm) 25) := by rw [hV]; exact (InsBox.new w x _ _ 25).alloc _
      have b1 := HK0.out.c 1
      rw [← hV] at HS0 ⊢
      clear hV HB0 HK0
      obtain ⟨c0, c1, c2, c3, c4, c5, c6, c7⟩ := HS0.out.box.cells
      go_wp2_with (first
        | (at_builtin; refine wpList_append_own _ rfl _ _ 62 rfl (w.heap.size + 2) 65 i0 .nilFunc 1 8 Try.underlying62 HI.out hz0 hz1 hz2 rfl (by decide) (.slice none 0 0) 0 [] rfl (HS0.out.row.alloc _) ⟨(V).heap.size, 0, none⟩ 1 1 [.func (.func 52) #[.agg #[.string x.name, .int .i64 x.kind, .int .i64 x.metric, .int .i64 x.scale, .int .i64 x.cap, .int .i64 x.fleet, .slice an L cn, .slice am M cm]] #[]] rfl rfl (cells_one _ _ _) (by simp [Value.oneCell']) (by unfold maxLen; omega) (by omega) (by have := HS0.out.box.lt; first | (simp; done) | (simp; omega) | omega) ?_; intro v1 w1 hown' hgrow _; have HS1 : Hid (LkS w x (.slice an L cn) (.slice am M cm) v1 1 [.func (.func 52) #[.agg #[.string x.name, .int .i64 x.kind, .int .i64 x.metric, .int .i64 x.scale, .int .i64 x.cap, .int .i64 x.fleet, .slice an L cn, .slice am M cm]] #[]] w1) := ((HS0.out.alloc _).grow hgrow hown'); have hs3 := HS1.out.box.lt; clear c0 c1 c2 c3 c4 c5 c6 c7; obtain ⟨c0, c1, c2, c3, c4, c5, c6, c7⟩ := HS1.out.box.cells; clear hown' hgrow)
        | (at_builtin; refine wpList_append_own _ rfl _ _ 62 rfl (w.heap.size + 2) 65 i0 .nilFunc 1 8 Try.underlying62 HI.out hz0 hz1 hz2 rfl (by decide) v1 1 [.func (.func 52) #[.agg #[.string x.name, .int .i64 x.kind, .int .i64 x.metric, .int .i64 x.scale, .int .i64 x.cap, .int .i64 x.fleet, .slice an L cn, .slice am M cm]] #[]] rfl (HS1.out.row.alloc _) ⟨(w1).heap.size, 0, none⟩ 1 1 [.func (.func 53) #[.agg #[.string x.name, .int .i64 x.kind, .int .i64 x.metric, .int .i64 x.scale, .int .i64 x.cap, .int .i64 x.fleet, .slice an L cn, .slice am M cm]] #[]] rfl rfl (cells_one _ _ _) (by simp [Value.oneCell']) (by unfold maxLen; omega) (by omega) (by have := HS1.out.box.lt; first | (simp; done) | (simp; omega) | omega) ?_; intro v2 w2 hown' hgrow _; have HS2 : Hid (LkS w x (.slice an L cn) (.slice am M cm) v2 2 [.func (.func 52) #[.agg #[.string x.name, .int .i64 x.kind, .int .i64 x.metric, .int .i64 x.scale, .int .i64 x.cap, .int .i64 x.fleet, .slice an L cn, .slice am M cm]] #[], .func (.func 53) #[.agg #[.string x.name, .int .i64 x.kind, .int .i64 x.metric, .int .i64 x.scale, .int .i64 x.cap, .int .i64 x.fleet, .slice an L cn, .slice am M cm]] #[]] w2) := ((HS1.out.alloc _).grow hgrow hown'); have hs4 := HS2.out.box.lt; clear c0 c1 c2 c3 c4 c5 c6 c7; obtain ⟨c0, c1, c2, c3, c4, c5, c6, c7⟩ := HS2.out.box.cells; clear hown' hgrow)
        | (at_builtin; refine wpList_append_own _ rfl _ _ 62 rfl (w.heap.size + 2) 65 i0 .nilFunc 1 8 Try.underlying62 HI.out hz0 hz1 hz2 rfl (by decide) v2 2 [.func (.func 52) #[.agg #[.string x.name, .int .i64 x.kind, .int .i64 x.metric, .int .i64 x.scale, .int .i64 x.cap, .int .i64 x.fleet, .slice an L cn, .slice am M cm]] #[], .func (.func 53) #[.agg #[.string x.name, .int .i64 x.kind, .int .i64 x.metric, .int .i64 x.scale, .int .i64 x.cap, .int .i64 x.fleet, .slice an L cn, .slice am M cm]] #[]] rfl (HS2.out.row.alloc _) ⟨(w2).heap.size, 0, none⟩ 1 1 [.func (.func 54) #[.agg #[.string x.name, .int .i64 x.kind, .int .i64 x.metric, .int .i64 x.scale, .int .i64 x.cap, .int .i64 x.fleet, .slice an L cn, .slice am M cm]] #[]] rfl rfl (cells_one _ _ _) (by simp [Value.oneCell']) (by unfold maxLen; omega) (by omega) (by have := HS2.out.box.lt; first | (simp; done) | (simp; omega) | omega) ?_; intro v3 w3 hown' hgrow _; have HS3 : Hid (LkS w x (.slice an L cn) (.slice am M cm) v3 3 [.func (.func 52) #[.agg #[.string x.name, .int .i64 x.kind, .int .i64 x.metric, .int .i64 x.scale, .int .i64 x.cap, .int .i64 x.fleet, .slice an L cn, .slice am M cm]] #[], .func (.func 53) #[.agg #[.string x.name, .int .i64 x.kind, .int .i64 x.metric, .int .i64 x.scale, .int .i64 x.cap, .int .i64 x.fleet, .slice an L cn, .slice am M cm]] #[], .func (.func 54) #[.agg #[.string x.name, .int .i64 x.kind, .int .i64 x.metric, .int .i64 x.scale, .int .i64 x.cap, .int .i64 x.fleet, .slice an L cn, .slice am M cm]] #[]] w3) := ((HS2.out.alloc _).grow hgrow hown'); have hs5 := HS3.out.box.lt; clear c0 c1 c2 c3 c4 c5 c6 c7; obtain ⟨c0, c1, c2, c3, c4, c5, c6, c7⟩ := HS3.out.box.cells; have hown2 := HS3.out.row; obtain ⟨ao, co, rfl⟩ := owns_dat hown2; obtain ⟨g, rfl, hgg⟩ := owns_some hown2 (by decide); clear hown2; clear hown' hgrow)
        | (go_at_call 55; (with_reducible refine (HRV.out _ _ _ _ HS3.out.row).mono ?_); rintro e w8 ⟨rfl, ho8, hg8⟩; have HO8 := Lib.hid ho8; have HB8 : Hid (Below w.heap.size w w8) := HS3.out.below.grown hg8 HS3.out.below.size (fun k e => by have := Option.some.inj e; omega); clear ho8 hg8))
      go_ret
      exact ⟨_, rfl, owns_baseLe HO8.out (by omega), HB8.out⟩
    · have kb4 : (x.kind == 4) = false := beq_eq_false_iff_ne.2 k4
      by_cases k3 : x.kind = 3
      · have e : looksN x.kind = [54, 53] := by unfold looksN; rw [if_neg k1, if_neg k4, if_pos k3]
        rw [e]
        have kb : (x.kind == 3) = true := beq_iff_eq.2 k3
        clear k1 k4 k3 e hk
        have HRV := Lib.hid fun B g cap W h => Try.reverse2_calls (.func 53) (.func 54) #[.agg #[.string x.name, .int .i64 x.kind, .int .i64 x.metric, .int .i64 x.scale, .int .i64 x.cap, .int .i64 x.fleet, .slice an L cn, .slice am M cm]] #[] #[.agg #[.string x.name, .int .i64 x.kind, .int .i64 x.metric, .int .i64 x.scale, .int .i64 x.cap, .int .i64 x.fleet, .slice an L cn, .slice am M cm]] #[] B g cap W h
        obtain ⟨c0, c1, c2, c3, c4, c5, c6, c7⟩ := HS0.out.box.cells
        go_enter Try.func33, Try.ntmps33
        go_upto_region 3 with (fail)
        clear c0 c1 c2 c3 c4 c5 c6 c7
        obtain ⟨V, hV⟩ : ∃ V, V = ((w.alloc (.cells #[.string x.name, .int .i64 x.kind, .int .i64 x.metric, .int .i64 x.scale, .int .i64 x.cap, .int .i64 x.fleet, .slice an L cn, .slice am M cm] 25)).alloc (.cells #[.string x.name, .int .i64 x.kind, .int .i64 x.metric, .int .i64 x.scale, .int .i64 x.cap, .int .i64 x.fleet, .slice an L cn, .slice am M cm] 91)) := ⟨_, rfl⟩
        have HK0 : Hid (InsBox V w.heap.size x (.slice an L cn) (.slice am M cm) 25) := by rw [hV]; exact (InsBox.new w x _ _ 25).alloc _
        have b1 := HK0.out.c 1
        rw [← hV] at HS0 ⊢
        clear hV HB0 HK0
        obtain ⟨c0, c1, c2, c3, c4, c5, c6, c7⟩ := HS0.out.box.cells
        go_wp2_with (first
          | (at_builtin; refine wpList_append_own _ rfl _ _ 62 rfl (w.heap.size + 2) 65 i0 .nilFunc 1 8 Try.underlying62 HI.out hz0 hz1 hz2 rfl (by decide) (.slice none 0 0) 0 [] rfl (HS0.out.row.alloc _) ⟨(V).heap.size, 0, none⟩ 1 1 [.func (.func 53) #[.agg #[.string x.name, .int .i64 x.kind, .int .i64 x.metric, .int .i64 x.scale, .int .i64 x.cap, .int .i64 x.fleet, .slice an L cn, .slice am M cm]] #[]] rfl rfl (cells_one _ _ _) (by simp [Value.oneCell']) (by unfold maxLen; omega) (by omega) (by have := HS0.out.box.lt; first | (simp; done) | (simp; omega) | omega) ?_; intro v1 w1 hown' hgrow _; have HS1 : Hid (LkS w x (.slice an L cn) (.slice am M cm) v1 1 [.func (.func 53) #[.agg #[.string x.name, .int .i64 x.kind, .int .i64 x.metric, .int .i64 x.scale, .int .i64 x.cap, .int .i64 x.fleet, .slice an L cn, .slice am M cm]] #[]] w1) := ((HS0.out.alloc _).grow hgrow hown'); have hs3 := HS1.out.box.lt; clear c0 c1 c2 c3 c4 c5 c6 c7; obtain ⟨c0, c1, c2, c3, c4, c5, c6, c7⟩ := HS1.out.box.cells; clear hown' hgrow)
          | (at_builtin; refine wpList_append_own _ rfl _ _ 62 rfl (w.heap.size + 2) 65 i0 .nilFunc 1 8 Try.underlying62 HI.out hz0 hz1 hz2 rfl (by decide) v1 1 [.func (.func 53) #[.agg #[.string x.name, .int .i64 x.kind, .int .i64 x.metric, .int .i64 x.scale, .int .i64 x.cap, .int .i64 x.fleet, .slice an L cn, .slice am M cm]] #[]] rfl (HS1.out.row.alloc _) ⟨(w1).heap.size, 0, none⟩ 1 1 [.func (.func 54) #[.agg #[.string x.name, .int .i64 x.kind, .int .i64 x.metric, .int .i64 x.scale, .int .i64 x.cap, .int .i64 x.fleet, .slice an L cn, .slice am M cm]] #[]] rfl rfl (cells_one _ _ _) (by simp [Value.oneCell']) (by unfold maxLen; omega) (by omega) (by have := HS1.out.box.lt; first | (simp; done) | (simp; omega) | omega) ?_; intro v2 w2 hown' hgrow _; have HS2 : Hid (LkS w x (.slice an L cn) (.slice am M cm) v2 2 [.func (.func 53) #[.agg #[.string x.name, .int .i64 x.kind, .int .i64 x.metric, .int .i64 x.scale, .int .i64 x.cap, .int .i64 x.fleet, .slice an L cn, .slice am M cm]] #[], .func (.func 54) #[.agg #[.string x.name, .int .i64 x.kind, .int .i64 x.metric, .int .i64 x.scale, .int .i64 x.cap, .int .i64 x.fleet, .slice an L cn, .slice am M cm]] #[]] w2) := ((HS1.out.alloc _).grow hgrow hown'); have hs4 := HS2.out.box.lt; clear c0 c1 c2 c3 c4 c5 c6 c7; obtain ⟨c0, c1, c2, c3, c4, c5, c6, c7⟩ := HS2.out.box.cells; have hown2 := HS2.out.row; obtain ⟨ao, co, rfl⟩ := owns_dat hown2; obtain ⟨g, rfl, hgg⟩ := owns_some hown2 (by decide); clear hown2; clear hown' hgrow)
          | (go_at_call 55; (with_reducible refine (HRV.out _ _ _ _ HS2.out.row).mono ?_); rintro e w8 ⟨rfl, ho8, hg8⟩; have HO8 := Lib.hid ho8; have HB8 : Hid (Below w.heap.size w w8) := HS2.out.below.grown hg8 HS2.out.below.size (fun k e => by have := Option.some.inj e; omega); clear ho8 hg8))
        go_ret
        exact ⟨_, rfl, owns_baseLe HO8.out (by omega), HB8.out⟩
      · have e : looksN x.kind = [54] := by unfold looksN; rw [if_neg k1, if_neg k4, if_neg k3]
        rw [e]
        have kb : (x.kind == 3) = false := beq_eq_false_iff_ne.2 k3
        clear k1 k4 k3 e hk
        have HRV := Lib.hid fun B g cap W h => Try.reverse1_calls (.func 54) #[.agg #[.string x.name, .int .i64 x.kind, .int .i64 x.metric, .int .i64 x.scale, .int .i64 x.cap, .int .i64 x.fleet, .slice an L cn, .slice am M cm]] #[] B g cap W h
        obtain ⟨c0, c1, c2, c3, c4, c5, c6, c7⟩ := HS0.out.box.cells
        go_enter Try.func33, Try.ntmps33
        go_upto_region 3 with (fail)
        clear c0 c1 c2 c3 c4 c5 c6 c7
        obtain ⟨V, hV⟩ : ∃ V, V = ((w.alloc (.cells #[.string x.name, .int .i64 x.kind, .int .i64 x.metric, .int .i64 x.scale, .int .i64 x.cap, .int .i64 x.fleet, .slice an L cn, .slice am M cm] 25)).alloc (.cells #[.string x.name, .int .i64 x.kind, .int .i64 x.metric, .int .i64 x.scale, .int .i64 x.cap, .int .i64 x.fleet, .slice an L cn, .slice am M cm] 91)) := ⟨_, rfl⟩
        have HK0 : Hid (InsBox V w.heap.size x (.slice an L cn) (.slice am M cm) 25) := by rw [hV]; exact (InsBox.new w x _ _ 25).alloc _
        have b1 := HK0.out.c 1
        rw [← hV] at HS0 ⊢
        clear hV HB0 HK0
        obtain ⟨c0, c1, c2, c3, c4, c5, c6, c7⟩ := HS0.out.box.cells
        go_wp2_with (first
          | (at_builtin; refine wpList_append_own _ rfl _ _ 62 rfl (w.heap.size + 2) 65 i0 .nilFunc 1 8 Try.underlying62 HI.out hz0 hz1 hz2 rfl (by decide) (.slice none 0 0) 0 [] rfl (HS0.out.row.alloc _) ⟨(V).heap.size, 0, none⟩ 1 1 [.func (.func 54) #[.agg #[.string x.name, .int .i64 x.kind, .int .i64 x.metric, .int .i64 x.scale, .int .i64 x.cap, .int .i64 x.fleet, .slice an L cn, .slice am M cm]] #[]] rfl rfl (cells_one _ _ _) (by simp [Value.oneCell']) (by unfold maxLen; omega) (by omega) (by have := HS0.out.box.lt; first | (simp; done) | (simp; omega) | omega) ?_; intro v1 w1 hown' hgrow _; have HS1 : Hid (LkS w x (.slice an L cn) (.slice am M cm) v1 1 [.func (.func 54) #[.agg #[.string x.name, .int .i64 x.kind, .int .i64 x.metric, .int .i64 x.scale, .int .i64 x.cap, .int .i64 x.fleet, .slice an L cn, .slice am M cm]] #[]] w1) := ((HS0.out.alloc _).grow hgrow hown'); have hs3 := HS1.out.box.lt; clear c0 c1 c2 c3 c4 c5 c6 c7; obtain ⟨c0, c1, c2, c3, c4, c5, c6, c7⟩ := HS1.out.box.cells; have hown2 := HS1.out.row; obtain ⟨ao, co, rfl⟩ := owns_dat hown2; obtain ⟨g, rfl, hgg⟩ := owns_some hown2 (by decide); clear hown2; clear hown' hgrow)
          | (go_at_call 55; (with_reducible refine (HRV.out _ _ _ _ HS1.out.row).mono ?_); rintro e w8 ⟨rfl, ho8, hg8⟩; have HO8 := Lib.hid ho8; have HB8 : Hid (Below w.heap.size w w8) := HS1.out.below.grown hg8 HS1.out.below.size (fun k e => by have := Option.some.inj e; omega); clear ho8 hg8))
        go_ret
        exact ⟨_, rfl, owns_baseLe HO8.out (by omega), HB8.out⟩
end Go.Proofs
