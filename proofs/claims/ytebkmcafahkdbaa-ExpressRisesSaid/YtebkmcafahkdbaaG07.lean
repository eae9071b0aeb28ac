/- The document's own Lacks of layer 12. Conditions: a million nodes at most. -/
import Derived.Test.YtebkmcafahkdbaaG06
import Derived.Test.YtebkmcafahkdbaaG02
namespace Go.Proofs
open Go.RowKit Go.Shelf Go.Canon Go.Expr
attribute [local go_sem] Oper.semAt_some
theorem Try.xinfo3 : (Try.prog.info? 3).map (fun i => (i.zero, i.size, i.bytes)) = some (some (.int .i64 0), 1, 8) := by kernel_rfl
/-- The instance in its box, and what lacks so far. -/
structure RlS (w : World) (x : Ins) (vn vm o : Value) (l : List Int) (W : World) : Prop where
  b : RbS w x vn vm W
  row : W.ownsRow (w.heap.size + 1) 3 1 o l.length (l.map intV)
theorem RlS.next {w W W' : World} {x : Ins} {vn vm o : Value} {l : List Int} (h : RlS w x vn vm o l W) (hb : Below W.heap.size W W') : RlS w x vn vm o l W' := ⟨h.b.next hb, fowns_next h.row hb⟩
theorem RlS.grow {w W W' : World} {x : Ins} {vn vm o o' : Value} {l l' : List Int} (h : RlS w x vn vm o l W) (hg : W.grownBy W' o.ownBlock) (hr : W'.ownsRow (w.heap.size + 1) 3 1 o' l'.length (l'.map intV)) : RlS w x vn vm o' l' W' :=
  ⟨⟨h.b.box.grown (Nat.lt_succ_self _) h.row hg, fgrown_below h.b.below h.b.below.size (Nat.le_succ _) h.row hg⟩, hr⟩
theorem rlS_start {w W : World} {x : Ins} {vn vm : Value} (h : RbS w x vn vm W) : RlS w x vn vm (.slice (some ⟨W.heap.size, 0, none⟩) 0 0) [] (W.alloc (.cells #[] 3)) := ⟨h.alloc _, by
  have e := cowns_empty W 3 1
  refine ⟨e.1, ?_⟩
  rcases e.2 with h0 | ⟨g, cap, cur, h1, h2, h3⟩
  · exact .inl h0
  · exact .inr ⟨g, cap, cur, h1, Nat.le_trans h.box.lt h2, h3⟩⟩
theorem ecells_one (W : World) (a : Value) (t : TypeId) : ∀ (j : Nat) (u : Value), [a][j]? = some u → (W.alloc (.cells #[a] t)).cell? ((⟨W.heap.size, 0, none⟩ : Addr).add j) = some u := by
  intro j u h
  rw [Addr.add_lit, Nat.zero_add]
  rcases j with _ | j
  · have e : (W.alloc (.cells #[a] t)).heap[W.heap.size]? = some (.cells #[a] t) := World.alloc_heap_new W _
    unfold World.cell?; rw [e]; exact h
  · simp at h
set_option maxRecDepth 100000 in
set_option maxHeartbeats 4000000 in
theorem Try.rLacks_calls (x : Ins) (vn vm : Value) (f : Int) (w : World) (hx : HasIns w vn vm x) (hl : x.nodes.length ≤ 1000000) :
    Calls Try.prog 11 #[.int .i64 f, insV x vn vm] w fun e w' => ∃ v', e = .returned v' ∧ HasInts w' v' (lacksL f x) ∧ Below w.heap.size w w' := by
  have HX := Lib.hid hx
  have HLK := Lib.hid fun g W h => Try.lacks12_calls x vn vm f g W h hl
  obtain ⟨an, cn, rfl, _⟩ := hx.nodes.dat
  obtain ⟨am, cm, rfl, _⟩ := hx.matrix.dat
  obtain ⟨i0, hio, hz0, hz1, hz2⟩ := info_parts Try.xinfo3
  have HI := Lib.hid hio
  unfold insV at HLK ⊢
  clear hx hl hio
  generalize x.nodes.length = L at *
  generalize x.matrix.length = M at *
  have HS0 := Lib.hid (RbS.new w x (.slice an L cn) (.slice am M cm))
  have hA0 := rlS_start HS0.out
  rw [World.size_alloc] at hA0
  have HA0 := Lib.hid hA0
  clear hA0
  go_enter Try.func11, Try.ntmps11
  go_wp2
  go_loopw [5, 6] (fun o i wr => ∃ k : Nat, 1 ≤ k ∧ k ≤ 14 ∧ i = .int .i64 (k : Int) ∧ RlS w x (.slice an L cn) (.slice am M cm) o (lacksN f x (k - 1)) wr) (fun _ i _ => 14 - (intOf i).toNat)
  case atStart => exact ⟨1, Nat.le_refl _, by decide, rfl, HA0.out⟩
  case round =>
    obtain ⟨k, hk0, hk, rfl, hS⟩ := hrel
    have HS := Lib.hid hS
    obtain ⟨c0, c1, c2, c3, c4, c5, c6, c7⟩ := hS.b.box.cells
    clear hS HS0 HA0
    by_cases hlt : k ≤ 13
    · have hki : (k : Int) ≤ 13 := by omega
      have hln := lacksN_len f x (k - 1)
      have hstep := lacksN_step (f := f) (x := x) hk0
      cases hq : lackQ f (k : Int) x with
      | false =>
        rw [hq, if_neg (by simp), List.append_nil] at hstep
        have HST := Lib.hid hstep
        have HL2 := Lib.hid fun W h => HLK.out (k : Int) W h
        simp only [hq] at HL2
        clear hstep hq hln
        go_wp2_with (go_at_call 29; (with_reducible refine (HL2.out _ (HX.out.next HS.out.b.below)).mono ?_); rintro e w1 ⟨rfl, hb1⟩; have HS1 := Lib.hid (HS.out.next hb1); clear hb1)
        go_roundw
        case rel => exact ⟨k + 1, by omega, by omega, by go_num, by rw [Nat.add_sub_cancel, HST.out]; exact HS1.out⟩
        case measure => simp [intOf]; omega
      | true =>
        rw [hq, if_pos rfl] at hstep
        have HST := Lib.hid hstep
        have HL2 := Lib.hid fun W h => HLK.out (k : Int) W h
        simp only [hq] at HL2
        clear hstep hq
        obtain ⟨S, hSS⟩ : ∃ S, lacksN f x (k - 1) = S := ⟨_, rfl⟩
        rw [hSS] at HST HS hln
        clear hSS
        obtain ⟨T, hT⟩ : ∃ T, S.length = T := ⟨_, rfl⟩
        have HT := Lib.hid hT
        rw [hT] at hln
        have hml : T + 1 ≤ maxLen := by unfold maxLen; omega
        have hml2 : (T + 1) * 8 ≤ 140737488355328 := by omega
        clear hT
        have HGO : Hid (∀ W, RlS w x (.slice an L cn) (.slice am M cm) u5 S W → ((W.alloc (.cells #[.int .i64 (k : Int)] 3)).ownsRow (w.heap.size + 1) 3 1 u5 T (S.map intV)) ∧ w.heap.size + 1 ≤ W.heap.size ∧ (∀ v' w5, w5.ownsRow (w.heap.size + 1) 3 1 v' (T + 1) (S.map intV ++ [.int .i64 (k : Int)]) → (W.alloc (.cells #[.int .i64 (k : Int)] 3)).grownBy w5 u5.ownBlock → RlS w x (.slice an L cn) (.slice am M cm) v' (S ++ [(k : Int)]) w5)) := fun W h =>
          ⟨by have e := (h.next (fbelow_box W (.cells #[.int .i64 (k : Int)] 3))).row; rw [HT.out] at e; exact e, h.b.box.lt, fun v' w5 h1 h2 => (h.next (fbelow_box W _)).grow h2 (by rw [List.map_append, List.length_append, HT.out]; exact h1)⟩
        go_wp2_with (first
          | (go_at_call 29; (with_reducible refine (HL2.out _ (HX.out.next HS.out.b.below)).mono ?_); rintro e w1 ⟨rfl, hb1⟩; have HS1 := Lib.hid (HS.out.next hb1); obtain ⟨g1, g2, g3⟩ := HGO.out _ HS1.out; have HG1 := Lib.hid g1; have HG3 := Lib.hid g3; clear hb1 g1 g3)
          | (at_builtin; refine wpList_append_own _ rfl _ _ 23 rfl (w.heap.size + 1) 3 i0 (.int .i64 0) 1 8 Try.underlying23 HI.out hz0 hz1 hz2 rfl (by decide) u5 T (S.map intV) rfl HG1.out ⟨w1.heap.size, 0, none⟩ 1 1 [.int .i64 (k : Int)] rfl rfl (ecells_one w1 _ _) (by simp [Value.oneCell']) hml hml2 (by simp; omega) ?_; intro v' w5 hown' hgrow _; have HS7 := Lib.hid (HG3.out v' w5 hown' hgrow); clear hown' hgrow))
        go_roundw
        case rel => exact ⟨k + 1, by omega, by omega, by go_num, by rw [Nat.add_sub_cancel, HST.out]; exact HS7.out⟩
        case measure => simp [intOf]; omega
    · obtain rfl : k = 14 := by omega
      have hI : Hid (HasInts wr u5 (lacksL f x)) := hasInts_of_owns HS.out.row
      clear hlt hk hk0
      go_wp2
      go_ret
      exact ⟨u5, rfl, hI.out, HS.out.b.below⟩
end Go.Proofs
/- Layer 12's own helpers: what package express is to answer (ExprC), long, shown. Conditions: ExprC. -/
namespace Go.Expr
open Go.Canon
def longE (x : Ins) : Bool := decide (400 < x.nodes.length) || decide (1000 < x.matrix.length) || decide (100 < x.name.size)
theorem longE_no {x : Ins} (h : longE x = false) : x.nodes.length ≤ 400 ∧ x.matrix.length ≤ 1000 ∧ x.name.size ≤ 100 := by
  unfold longE at h
  simp only [Bool.or_eq_false_iff, decide_eq_false_iff_not] at h
  omega
/-- shown's instance. -/
def shownX : Ins := ⟨⟨#[116]⟩, 1, 1, 0, 0, 0, [⟨0, 0, 0, 0, 0, 0, 0⟩, ⟨3, 0, 0, 0, 0, 0, 0⟩], []⟩
theorem sx_two : lacksL 2 shownX = [2, 3, 6] := by decide +kernel
theorem sx_all : (lacksL 0 shownX).length = 13 := by decide +kernel
theorem sx_can1 : canB 1 shownX = true := by decide +kernel
theorem sx_can4 : canB 4 shownX = true := by decide +kernel
theorem sx_can3 : canB 3 shownX = false := by decide +kernel
end Go.Expr
namespace Go.Proofs
open Go.RowKit Go.Shelf Go.Canon Go.Expr
attribute [local go_sem] Oper.semAt_some
/-- What package express is to answer. -/
structure Try.ExprC : Prop where
  lacks : ∀ (f : Int) (x : Ins) (vn vm : Value) (W : World), HasIns W vn vm x → x.nodes.length ≤ 400 →
    Calls Try.prog 9 #[.int .i64 f, insV x vn vm] W fun e w' => ∃ v', e = .returned v' ∧ HasInts w' v' (lacksL f x) ∧ Below W.heap.size W w'
  can : ∀ (f : Int) (x : Ins) (vn vm : Value) (W : World), HasIns W vn vm x → x.nodes.length ≤ 400 →
    Calls Try.prog 13 #[.int .i64 f, insV x vn vm] W fun e w' => e = .returned (.bool (canB f x)) ∧ Below W.heap.size W w'
set_option maxRecDepth 100000 in
theorem Try.long12_calls (x : Ins) (vn vm : Value) (w : World) (hx : HasIns w vn vm x) :
    Calls Try.prog 7 #[insV x vn vm] w fun e w' => e = .returned (.bool (longE x)) ∧ Below w.heap.size w w' := by
  obtain ⟨an, cn, rfl, _⟩ := hx.nodes.dat
  obtain ⟨am, cm, rfl, _⟩ := hx.matrix.dat
  unfold insV longE
  clear hx
  generalize x.nodes.length = L at *
  generalize x.matrix.length = M at *
  have HB := Lib.hid (fbelow_box w (.cells #[.string x.name, .int .i64 x.kind, .int .i64 x.metric, .int .i64 x.scale, .int .i64 x.cap, .int .i64 x.fleet, .slice an L cn, .slice am M cm] 25))
  by_cases h1 : 400 < L
  · have E : Hid ((decide (400 < L) || decide (1000 < M) || decide (100 < x.name.size)) = true) := by unfold Hid; rw [decide_eq_true h1]; rfl
    have k1 : (400 : Int) < (L : Int) := by omega
    clear h1
    go_enter Try.func7, Try.ntmps7
    go_wp2
    go_ret
    exact ⟨(by rw [E.out]; try rfl), HB.out⟩
  · by_cases h2 : 1000 < M
    · have E : Hid ((decide (400 < L) || decide (1000 < M) || decide (100 < x.name.size)) = true) := by unfold Hid; rw [decide_eq_true h2, Bool.or_true]; rfl
      have k1 : ¬ (400 : Int) < (L : Int) := by omega
      have k2 : (1000 : Int) < (M : Int) := by omega
      clear h1 h2
      go_enter Try.func7, Try.ntmps7
      go_wp2
      go_ret
      exact ⟨(by rw [E.out]; try rfl), HB.out⟩
    · by_cases h3 : 100 < x.name.size
      · have E : Hid ((decide (400 < L) || decide (1000 < M) || decide (100 < x.name.size)) = true) := by unfold Hid; rw [decide_eq_true h3, Bool.or_true]
        have k1 : ¬ (400 : Int) < (L : Int) := by omega
        have k2 : ¬ (1000 : Int) < (M : Int) := by omega
        have k3 : (100 : Int) < (x.name.size : Int) := by omega
        clear h1 h2 h3
        go_enter Try.func7, Try.ntmps7
        go_wp2
        go_ret
        exact ⟨(by rw [E.out]; try rfl), HB.out⟩
      · have E : Hid ((decide (400 < L) || decide (1000 < M) || decide (100 < x.name.size)) = false) := by unfold Hid; rw [decide_eq_false h1, decide_eq_false h2, decide_eq_false h3]; rfl
        have k1 : ¬ (400 : Int) < (L : Int) := by omega
        have k2 : ¬ (1000 : Int) < (M : Int) := by omega
        have k3 : ¬ (100 : Int) < (x.name.size : Int) := by omega
        clear h1 h2 h3
        go_enter Try.func7, Try.ntmps7
        go_wp2
        go_ret
        exact ⟨(by rw [E.out]; try rfl), HB.out⟩
theorem xcell (W : World) (cs : Array Value) (t : TypeId) (j : Nat) : (W.alloc (.cells cs t)).cell? ⟨W.heap.size, j, none⟩ = cs[j]? := by
  unfold World.cell?
  rw [World.alloc_heap_new]
  rfl
theorem shownX_nodes (w : World) : HasNodes (w.alloc (.cells #[Value.int .i64 0, .int .i64 0, .int .i64 0, .int .i64 0, .int .i64 0, .int .i64 0, .int .i64 0, .int .i64 3, .int .i64 0, .int .i64 0, .int .i64 0, .int .i64 0, .int .i64 0, .int .i64 0] 40)) (.slice (some ⟨w.heap.size, 0, none⟩) 2 2) shownX.nodes := by
  refine .inr ⟨w.heap.size, 0, 2, rfl, Nat.le_refl 2, by decide, by simp, fun i d hd => ?_⟩
  rcases i with _ | _ | i
  · obtain rfl : _ = d := Option.some.inj hd
    exact ⟨xcell _ _ _ _, xcell _ _ _ _, xcell _ _ _ _, xcell _ _ _ _, xcell _ _ _ _, xcell _ _ _ _, xcell _ _ _ _⟩
  · obtain rfl : _ = d := Option.some.inj hd
    exact ⟨xcell _ _ _ _, xcell _ _ _ _, xcell _ _ _ _, xcell _ _ _ _, xcell _ _ _ _, xcell _ _ _ _, xcell _ _ _ _⟩
  · simp [shownX] at hd
theorem shownX_box {W : World} {B : Nat} {vn : Value} {t : TypeId} (h : InsBox W B shownX vn (.slice none 0 0) t) : W.cell? ⟨B, 0, none⟩ = some (.string ⟨#[116]⟩) ∧ W.cell? ⟨B, 1, none⟩ = some (.int .i64 1) ∧ W.cell? ⟨B, 2, none⟩ = some (.int .i64 1) ∧ W.cell? ⟨B, 3, none⟩ = some (.int .i64 0) ∧ W.cell? ⟨B, 4, none⟩ = some (.int .i64 0) ∧ W.cell? ⟨B, 5, none⟩ = some (.int .i64 0) ∧ W.cell? ⟨B, 6, none⟩ = some vn ∧ W.cell? ⟨B, 7, none⟩ = some (.slice none 0 0) :=
  ⟨h.c 0, h.c 1, h.c 2, h.c 3, h.c 4, h.c 5, h.c 6, h.c 7⟩
/-- shown's instance in its box. -/
structure SxS (w : World) (B : Nat) (vn : Value) (W : World) : Prop where
  box : InsBox W B shownX vn (.slice none 0 0) 25
  has : HasIns W vn (.slice none 0 0) shownX
  below : Below w.heap.size w W
theorem SxS.next {w W W' : World} {B : Nat} {vn : Value} (h : SxS w B vn W) (hb : Below W.heap.size W W') : SxS w B vn W' := ⟨h.box.next hb, h.has.next hb, h.below.trans (hb.mono h.below.size)⟩
theorem sxS_start (w : World) : SxS w (w.heap.size + 1) (.slice (some ⟨w.heap.size, 0, none⟩) 2 2) ((w.alloc (.cells #[Value.int .i64 0, .int .i64 0, .int .i64 0, .int .i64 0, .int .i64 0, .int .i64 0, .int .i64 0, .int .i64 3, .int .i64 0, .int .i64 0, .int .i64 0, .int .i64 0, .int .i64 0, .int .i64 0] 40)).alloc (.cells #[.string ⟨#[116]⟩, .int .i64 1, .int .i64 1, .int .i64 0, .int .i64 0, .int .i64 0, .slice (some ⟨w.heap.size, 0, none⟩) 2 2, .slice none 0 0] 25)) := by
  have e : (w.alloc (.cells #[Value.int .i64 0, .int .i64 0, .int .i64 0, .int .i64 0, .int .i64 0, .int .i64 0, .int .i64 0, .int .i64 3, .int .i64 0, .int .i64 0, .int .i64 0, .int .i64 0, .int .i64 0, .int .i64 0] 40)).heap.size = w.heap.size + 1 := by simp
  refine ⟨?_, ⟨?_, .inl ⟨rfl, none, 0, rfl⟩⟩, ?_⟩
  · have h := InsBox.new (w.alloc (.cells #[Value.int .i64 0, .int .i64 0, .int .i64 0, .int .i64 0, .int .i64 0, .int .i64 0, .int .i64 0, .int .i64 3, .int .i64 0, .int .i64 0, .int .i64 0, .int .i64 0, .int .i64 0, .int .i64 0] 40)) shownX (.slice (some ⟨w.heap.size, 0, none⟩) 2 2) (.slice none 0 0) 25
    rw [e] at h
    exact h
  · exact (shownX_nodes w).next (fbelow_box _ _)
  · exact (fbelow_box w _).trans ((fbelow_box _ _).mono (by simp))
set_option maxRecDepth 100000 in
set_option maxHeartbeats 4000000 in
theorem Try.shown12_calls (H : Try.ExprC) (w : World) : Calls Try.prog 8 #[] w fun e w' => e = .returned (.bool true) ∧ Below w.heap.size w w' := by
  have HL2 : Hid (∀ vn W, HasIns W vn (.slice none 0 0) shownX → Calls Try.prog 9 #[.int .i64 2, .agg #[.string ⟨#[116]⟩, .int .i64 1, .int .i64 1, .int .i64 0, .int .i64 0, .int .i64 0, vn, .slice none 0 0]] W fun e w' => ∃ b off c, e = .returned (.slice (some ⟨b, off, none⟩) 3 c) ∧ (b < w'.heap.size ∧ w'.cell? ⟨b, off, none⟩ = some (.int .i64 2) ∧ w'.cell? ⟨b, off + 2, none⟩ = some (.int .i64 6)) ∧ Below W.heap.size W w') := fun vn W h1 => (H.lacks 2 shownX vn (.slice none 0 0) W h1 (by decide)).mono fun e w' ⟨v', e1, h3, h4⟩ => by
    rw [sx_two] at h3
    rcases h3 with ⟨h0, _⟩ | ⟨b, off, c, rfl, _, _, h5⟩
    · cases h0
    · exact ⟨b, off, c, e1, ⟨h5.1, h5.2 0 2 rfl, h5.2 2 6 rfl⟩, h4⟩
  have HL0 : Hid (∀ vn W, HasIns W vn (.slice none 0 0) shownX → Calls Try.prog 9 #[.int .i64 0, .agg #[.string ⟨#[116]⟩, .int .i64 1, .int .i64 1, .int .i64 0, .int .i64 0, .int .i64 0, vn, .slice none 0 0]] W fun e w' => ∃ a c, e = .returned (.slice a 13 c) ∧ Below W.heap.size W w') := fun vn W h1 => (H.lacks 0 shownX vn (.slice none 0 0) W h1 (by decide)).mono fun e w' ⟨v', e1, h3, h4⟩ => by
    obtain ⟨a, c, rfl⟩ := h3.len
    rw [sx_all] at e1
    exact ⟨a, c, e1, h4⟩
  have HC1 : Hid (∀ vn W, HasIns W vn (.slice none 0 0) shownX → Calls Try.prog 13 #[.int .i64 1, .agg #[.string ⟨#[116]⟩, .int .i64 1, .int .i64 1, .int .i64 0, .int .i64 0, .int .i64 0, vn, .slice none 0 0]] W fun e w' => e = .returned (.bool true) ∧ Below W.heap.size W w') := fun vn W h1 => (H.can 1 shownX vn (.slice none 0 0) W h1 (by decide)).mono fun e w' h => ⟨h.1.trans (by rw [sx_can1]), h.2⟩
  have HC4 : Hid (∀ vn W, HasIns W vn (.slice none 0 0) shownX → Calls Try.prog 13 #[.int .i64 4, .agg #[.string ⟨#[116]⟩, .int .i64 1, .int .i64 1, .int .i64 0, .int .i64 0, .int .i64 0, vn, .slice none 0 0]] W fun e w' => e = .returned (.bool true) ∧ Below W.heap.size W w') := fun vn W h1 => (H.can 4 shownX vn (.slice none 0 0) W h1 (by decide)).mono fun e w' h => ⟨h.1.trans (by rw [sx_can4]), h.2⟩
  have HC3 : Hid (∀ vn W, HasIns W vn (.slice none 0 0) shownX → Calls Try.prog 13 #[.int .i64 3, .agg #[.string ⟨#[116]⟩, .int .i64 1, .int .i64 1, .int .i64 0, .int .i64 0, .int .i64 0, vn, .slice none 0 0]] W fun e w' => e = .returned (.bool false) ∧ Below W.heap.size W w') := fun vn W h1 => (H.can 3 shownX vn (.slice none 0 0) W h1 (by decide)).mono fun e w' h => ⟨h.1.trans (by rw [sx_can3]), h.2⟩
  have HS0 := Lib.hid (sxS_start w)
  clear H
  obtain ⟨c0, c1, c2, c3, c4, c5, c6, c7⟩ := shownX_box HS0.out.box
  go_enter Try.func8, Try.ntmps8
  go_upto_region 2 with (fail)
  obtain ⟨V, hV⟩ : ∃ V, V = ((w.alloc (.cells #[Value.int .i64 0, .int .i64 0, .int .i64 0, .int .i64 0, .int .i64 0, .int .i64 0, .int .i64 0, .int .i64 3, .int .i64 0, .int .i64 0, .int .i64 0, .int .i64 0, .int .i64 0, .int .i64 0] 40)).alloc (.cells #[.string ⟨#[116]⟩, .int .i64 1, .int .i64 1, .int .i64 0, .int .i64 0, .int .i64 0, .slice (some ⟨w.heap.size, 0, none⟩) 2 2, .slice none 0 0] 25)) := ⟨_, rfl⟩
  rw [← hV] at HS0 c0 c1 c2 c3 c4 c5 c6 c7 ⊢
  clear hV
  go_wp2_with (first
    | (go_at_call 9; first
      | ((with_reducible refine (HL2.out _ _ HS0.out.has).mono ?_); rintro e w1 ⟨b, off, c, rfl, hl1, hb1⟩; have HS1 := Lib.hid (HS0.out.next hb1); have HL1 := Lib.hid hl1; clear hb1 hl1 c0 c1 c2 c3 c4 c5 c6 c7; obtain ⟨c0, c1, c2, c3, c4, c5, c6, c7⟩ := shownX_box HS1.out.box)
      | ((with_reducible refine (HL0.out _ _ HS3.out.has).mono ?_); rintro e w4 ⟨a4, k4, rfl, hb4⟩; have HS4 := Lib.hid (HS3.out.next hb4); clear hb4 c0 c1 c2 c3 c4 c5 c6 c7; obtain ⟨c0, c1, c2, c3, c4, c5, c6, c7⟩ := shownX_box HS4.out.box))
    | (go_at_call 13; first
      | ((with_reducible refine (HC1.out _ _ HS1.out.has).mono ?_); rintro e w2 ⟨rfl, hb2⟩; have HS2 := Lib.hid (HS1.out.next hb2); have HL3 : Hid (b < w2.heap.size ∧ w2.cell? ⟨b, off, none⟩ = some (.int .i64 2) ∧ w2.cell? ⟨b, off + 2, none⟩ = some (.int .i64 6)) := ⟨Nat.lt_of_lt_of_le HL1.out.1 hb2.size, (hb2.cell (p := ⟨b, off, none⟩) HL1.out.1).trans HL1.out.2.1, (hb2.cell (p := ⟨b, off + 2, none⟩) HL1.out.1).trans HL1.out.2.2⟩; clear hb2 c0 c1 c2 c3 c4 c5 c6 c7; obtain ⟨c0, c1, c2, c3, c4, c5, c6, c7⟩ := shownX_box HS2.out.box)
      | ((with_reducible refine (HC4.out _ _ HS2.out.has).mono ?_); rintro e w3 ⟨rfl, hb3⟩; have HS3 := Lib.hid (HS2.out.next hb3); have l0 : w3.cell? ⟨b, off, none⟩ = some (.int .i64 2) := (hb3.cell (p := ⟨b, off, none⟩) HL3.out.1).trans HL3.out.2.1; have l2 : w3.cell? ⟨b, off + 2, none⟩ = some (.int .i64 6) := (hb3.cell (p := ⟨b, off + 2, none⟩) HL3.out.1).trans HL3.out.2.2; clear hb3 c0 c1 c2 c3 c4 c5 c6 c7; obtain ⟨c0, c1, c2, c3, c4, c5, c6, c7⟩ := shownX_box HS3.out.box)
      | ((with_reducible refine (HC3.out _ _ HS4.out.has).mono ?_); rintro e w5 ⟨rfl, hb5⟩; have HS5 := Lib.hid (HS4.out.next hb5); clear hb5 c0 c1 c2 c3 c4 c5 c6 c7)))
  go_ret
  exact ⟨rfl, HS5.out.below⟩
end Go.Proofs
/- Layer 12's law package: its. Conditions: 419 nodes at most. -/
namespace Go.Proofs
open Go.RowKit Go.Shelf Go.Canon
attribute [local go_sem] Oper.semAt_some
set_option maxRecDepth 100000 in
set_option maxHeartbeats 2000000 in
theorem Try.fits12_calls (x : Ins) (vn vm : Value) (w : World) (hx : HasIns w vn vm x) (h1 : x.nodes.length ≤ 419) :
    Calls Try.prog 12 #[insV x vn vm] w fun e w' => ∃ v', e = .returned (insV x v' vm) ∧ w'.ownsRow (w.heap.size + 3) 48 7 v' x.nodes.length (x.nodes.flatMap ndC) ∧ Below w.heap.size w w' := by
  obtain ⟨i0, hi, hz0, hz1, hz2⟩ := info_parts Try.info48
  have HI := Lib.hid hi
  obtain ⟨an, cn, rfl, hn⟩ := hx.nodes.dat
  obtain ⟨am, cm, rfl, _⟩ := hx.matrix.dat
  unfold insV
  clear hi hx
  go_enter Try.func12, Try.ntmps12
  go_wp2
  go_loopw [4] (fun i wr => ∃ (k : Nat) (v : Value), k ≤ x.nodes.length ∧ i = .int .i64 (k : Int) ∧ ItsS w x (.slice an x.nodes.length cn) (.slice am x.matrix.length cm) wr v (x.nodes.take k)) (fun i _ => x.nodes.length - (intOf i).toNat)
  case atStart => exact ⟨0, _, Nat.zero_le _, rfl, its_start _ _ _ _ _⟩
  case round =>
    obtain ⟨k, v, hk, rfl, hS⟩ := hrel
    have HS := Lib.hid hS
    have p6 := hS.p6
    have row := hS.row
    have sz := hS.sz
    by_cases hlt : k < x.nodes.length
    · obtain ⟨d, hd⟩ : ∃ d, x.nodes[k]? = some d := ⟨_, List.getElem?_eq_getElem hlt⟩
      rcases hn with h0 | ⟨b, off, rfl, hN⟩
      · rw [h0] at hlt; simp at hlt
      have hki : (k : Int) < (x.nodes.length : Int) := by omega
      have hk4 : (k : Int) < 420 := by omega
      obtain ⟨x0, x1, x2, x3, x4, x5, x6⟩ := (hN.2 k d hd).below hS.below hN.1
      have y6 : wr.cell? ⟨w.heap.size + 2, 6, none⟩ = some v := hS.y 6
      have f6 : wr.frozen? ⟨w.heap.size + 2, 6, none⟩ = false := by unfold World.frozen?; rw [hS.yb]; rfl
      have ya : ∀ o, (wr.alloc o).cell? ⟨w.heap.size + 2, 6, none⟩ = some v := fun o => ((below_box wr o).cell (p := ⟨w.heap.size + 2, 6, none⟩) (by show w.heap.size + 2 < _; omega)).trans y6
      have yb : ∀ o, (wr.alloc o).cell? ⟨w.heap.size + 1 + 1, 6, none⟩ = some v := ya
      have HT := Lib.hid (ctake_get hd)
      have hlen : (x.nodes.take k).length = k := by rw [List.length_take]; omega
      rw [hlen] at row
      have HLN := Lib.hid hlen
      have hml : k + 1 ≤ maxLen := by unfold maxLen; omega
      have hml2 : (k + 1) * 56 ≤ 140737488355328 := by omega
      have HK : Hid (∀ W' W1, Below wr.heap.size wr W' → W'.grownBy W1 v.ownBlock → W1.cell? ⟨w.heap.size + 2, 6, none⟩ = some v ∧ W1.frozen? ⟨w.heap.size + 2, 6, none⟩ = false) := fun W' W1 h1 h2 => by
        have e := (hS.keep h1 h2) (w.heap.size + 2) (by omega)
        exact ⟨(World.cell?_of_block (a := ⟨w.heap.size + 2, 6, none⟩) e).trans y6, (World.frozen?_of_block (a := ⟨w.heap.size + 2, 6, none⟩) e).trans f6⟩
      clear hS hd hlen hN
      go_wp2
      go_region_law (first
        | (refine step_append_any rfl (.tmp 32) (.tmp 38) 31 rfl (w.heap.size + 3) 48 i0 (.agg #[.int .i64 0, .int .i64 0, .int .i64 0, .int .i64 0, .int .i64 0, .int .i64 0, .int .i64 0]) 7 56 Try.underlying31 HI.out hz0 hz1 hz2 rfl (by decide) v k ((x.nodes.take k).flatMap ndC) rfl (by repeat first | exact row | (with_reducible refine cowns_drew ?_) | (with_reducible refine World.ownsRow.alloc ?_ _)) ⟨wr.heap.size, 0, none⟩ 1 1 (ndC d) rfl rfl (fun j u h => cells_arr _ _ _ j u h) (by simp [Value.oneCell', ndC]) hml hml2 (by simp; omega) ?_; intro v' w1 hown' hgrow; have HH := HK.out _ _ (by repeat first | exact Below.refl _ _ | (with_reducible refine cbelow_drew ?_) | (with_reducible refine Below.alloc ?_ (Nat.le_refl _) _)) hgrow; have HA := Lib.hid (HS.out.add (by rw [HLN.out]; exact hown') (by repeat first | exact Below.refl _ _ | (with_reducible refine cbelow_drew ?_) | (with_reducible refine Below.alloc ?_ (Nat.le_refl _) _)) hgrow); obtain ⟨y6', f6'⟩ := HH; obtain ⟨g', cap', rfl⟩ := ownsRow_succ hown'; clear hown' hgrow))
      all_goals (go_wp2; go_roundw; (case rel => exact ⟨k + 1, _, by omega, by go_num, by rw [HT.out]; exact HA.out⟩); (case measure => simp [intOf]; omega))
    · obtain rfl : k = x.nodes.length := by omega
      rw [List.take_length] at row
      have hB := hS.below
      have rb := hS.rb
      have y0 : wr.cell? ⟨w.heap.size + 2, 0, none⟩ = some (.string x.name) := hS.y 0
      have r0 : wr.cell? ⟨w.heap.size + 1, 0, none⟩ = some (.string ⟨#[]⟩) := by unfold World.cell?; rw [rb]; rfl
      have f0 : wr.frozen? ⟨w.heap.size + 1, 0, none⟩ = false := by unfold World.frozen?; rw [rb]; rfl
      have y1 : wr.cell? ⟨w.heap.size + 2, 1, none⟩ = some (.int .i64 x.kind) := hS.y 1
      have r1 : wr.cell? ⟨w.heap.size + 1, 1, none⟩ = some (.int .i64 0) := by unfold World.cell?; rw [rb]; rfl
      have f1 : wr.frozen? ⟨w.heap.size + 1, 1, none⟩ = false := by unfold World.frozen?; rw [rb]; rfl
      have y2 : wr.cell? ⟨w.heap.size + 2, 2, none⟩ = some (.int .i64 x.metric) := hS.y 2
      have r2 : wr.cell? ⟨w.heap.size + 1, 2, none⟩ = some (.int .i64 0) := by unfold World.cell?; rw [rb]; rfl
      have f2 : wr.frozen? ⟨w.heap.size + 1, 2, none⟩ = false := by unfold World.frozen?; rw [rb]; rfl
      have y3 : wr.cell? ⟨w.heap.size + 2, 3, none⟩ = some (.int .i64 x.scale) := hS.y 3
      have r3 : wr.cell? ⟨w.heap.size + 1, 3, none⟩ = some (.int .i64 0) := by unfold World.cell?; rw [rb]; rfl
      have f3 : wr.frozen? ⟨w.heap.size + 1, 3, none⟩ = false := by unfold World.frozen?; rw [rb]; rfl
      have y4 : wr.cell? ⟨w.heap.size + 2, 4, none⟩ = some (.int .i64 x.cap) := hS.y 4
      have r4 : wr.cell? ⟨w.heap.size + 1, 4, none⟩ = some (.int .i64 0) := by unfold World.cell?; rw [rb]; rfl
      have f4 : wr.frozen? ⟨w.heap.size + 1, 4, none⟩ = false := by unfold World.frozen?; rw [rb]; rfl
      have y5 : wr.cell? ⟨w.heap.size + 2, 5, none⟩ = some (.int .i64 x.fleet) := hS.y 5
      have r5 : wr.cell? ⟨w.heap.size + 1, 5, none⟩ = some (.int .i64 0) := by unfold World.cell?; rw [rb]; rfl
      have f5 : wr.frozen? ⟨w.heap.size + 1, 5, none⟩ = false := by unfold World.frozen?; rw [rb]; rfl
      have y6 : wr.cell? ⟨w.heap.size + 2, 6, none⟩ = some (v) := hS.y 6
      have r6 : wr.cell? ⟨w.heap.size + 1, 6, none⟩ = some (.slice none 0 0) := by unfold World.cell?; rw [rb]; rfl
      have f6 : wr.frozen? ⟨w.heap.size + 1, 6, none⟩ = false := by unfold World.frozen?; rw [rb]; rfl
      have y7 : wr.cell? ⟨w.heap.size + 2, 7, none⟩ = some (.slice am x.matrix.length cm) := hS.y 7
      have r7 : wr.cell? ⟨w.heap.size + 1, 7, none⟩ = some (.slice none 0 0) := by unfold World.cell?; rw [rb]; rfl
      have f7 : wr.frozen? ⟨w.heap.size + 1, 7, none⟩ = false := by unfold World.frozen?; rw [rb]; rfl
      have HR := Lib.hid row
      have HB := Lib.hid hB
      clear hS rb row hB HS hlt hn
      obtain ⟨ao, vn, vc, rfl⟩ : ∃ ao n c, v = .slice ao n c := by
        rcases HR.out.2 with ⟨rfl, _⟩ | ⟨g, cap, cur, rfl, _⟩
        · exact ⟨_, _, _, rfl⟩
        · exact ⟨_, _, _, rfl⟩
      go_wp2
      refine bodyPost_ret (v := .agg #[.string x.name, .int .i64 x.kind, .int .i64 x.metric, .int .i64 x.scale, .int .i64 x.cap, .int .i64 x.fleet, .slice ao vn vc, .slice am x.matrix.length cm]) (by simp [results, Try.results12, go_sem, r0, r1, r2, r3, r4, r5, r6, r7]) rfl ⟨_, rfl, its_ret HR.out (by show w.heap.size + 1 < _; omega) _ _ _ _ _ _ _ _, ?_⟩
      exact ((((((((HB.out.setCell (by simp) _).setCell (by simp) _).setCell (by simp) _).setCell (by simp) _).setCell (by simp) _).setCell (by simp) _).setCell (by simp) _).setCell (by simp) _)
end Go.Proofs
