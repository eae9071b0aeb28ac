/- My own law for 'for x := range f': the list of the elements that f yields is known ahead; f may itself be a loop over another function, whose rounds call yield. Conditions: a walk at the fence that asks nothing; no panic and no defer in a round. -/
import Derived.RangeFuncNested
import Derived.RangeFuncBound
import Derived.RangeFuncCalls
import Derived.RangeFuncLeaves
namespace Go
open Go.RowKit

/-- What a round keeps: whatever is no cells and lies at or beyond B, and all cells of the types in T. -/
structure RF (T : Nat → TypeId → Bool) (B : Nat) (W W' : World) : Prop where
  size : W.heap.size ≤ W'.heap.size
  other : ∀ (k : Nat) (o : Obj), B ≤ k → W.heap[k]? = some o → o.isCells = false → W'.heap[k]? = some o
  steady : ∀ (k : Nat) (c : Array Value) (t : TypeId) (z : Nat × Nat), T k t = true → W.heap[k]? = some (.cells c t z) → W'.heap[k]? = some (.cells c t z)

variable {T : Nat → TypeId → Bool} {B : Nat}
theorem RF.refl (W : World) : RF T B W W := ⟨Nat.le_refl _, fun _ _ _ h _ => h, fun _ _ _ _ _ h => h⟩
theorem RF.trans {X Y Z : World} (h : RF T B X Y) (k : RF T B Y Z) : RF T B X Z :=
  ⟨Nat.le_trans h.size k.size, fun i o hB hi ho => k.other i o hB (h.other i o hB hi ho) ho, fun i c t z ht hi => k.steady i c t z ht (h.steady i c t z ht hi)⟩
theorem RF.mono {B' : Nat} {X Y : World} (h : RF T B X Y) (hB : B ≤ B') : RF T B' X Y := ⟨h.size, fun i o hi => h.other i o (Nat.le_trans hB hi), h.steady⟩
theorem RF.alloc {X Y : World} (h : RF T B X Y) (o : Obj) : RF T B X (Y.alloc o) :=
  h.trans ⟨by simp, fun k _ _ hk _ => (Below.heap_alloc Y o k (Array.getElem?_eq_some_iff.1 hk).1).trans hk, fun k _ _ _ _ hk => (Below.heap_alloc Y o k (Array.getElem?_eq_some_iff.1 hk).1).trans hk⟩
theorem RF.drew {X Y : World} (h : RF T B X Y) : RF T B X Y.drew := ⟨h.size, h.other, h.steady⟩
/-- A step that turns one block of cells, of a type that is not in T. -/
theorem RF.grown {X Y Z : World} (h : RF T B X Y) {row : Option Nat} (hg : Y.grownBy Z row)
    (hr : ∀ j, row = some j → ∀ o, Y.heap[j]? = some o → ∃ c t z, o = .cells c t z ∧ T j t = false) : RF T B X Z := by
  refine h.trans ⟨hg.size, fun k o _ hk ho => ?_, fun k c t z ht hk => ?_⟩
  · refine (hg.block k (Array.getElem?_eq_some_iff.1 hk).1 (fun e => ?_)).trans hk
    obtain ⟨c, t, z, rfl, _⟩ := hr k e.symm o hk
    simp [Obj.isCells] at ho
  · refine (hg.block k (Array.getElem?_eq_some_iff.1 hk).1 (fun e => ?_)).trans hk
    obtain ⟨c', t', z', h1, h2⟩ := hr k e.symm _ hk
    cases h1
    rw [h2] at ht; cases ht
theorem RF.set {X Y : World} (h : RF T B X Y) {b : Nat} {t : TypeId} {u : Value} (hb : Boxed Y b t u) (ht : T b t = false) (v : Value) : RF T B X (Y.setCell ⟨b, 0, none⟩ v) :=
  h.grown (grownBy_setCell' Y b v) (fun j e o ho => by cases e; rw [show Y.heap[b]? = _ from hb] at ho; cases ho; exact ⟨_, _, _, rfl, ht⟩)
theorem RF.put {X Y : World} (h : RF T B X Y) {l : Nat} {o o' : Obj} (hl : Y.heap[l]? = some o) (ho : o.isCells = false) (hB : l < B) : RF T B X (Y.putObj l o') := by
  refine h.trans ⟨by simp, fun k _ hk hk' _ => (World.putObj_heap_other (by omega)).trans hk', fun k c t z _ hk => (World.putObj_heap_other (fun e => ?_)).trans hk⟩
  subst e; rw [hl] at hk; cases hk; simp [Obj.isCells] at ho
theorem RF.boxed {X Y : World} (h : RF T B X Y) {b : Nat} {t : TypeId} {u : Value} (hb : Boxed X b t u) (ht : T b t = true) : Boxed Y b t u := h.steady b _ t _ ht hb
theorem RF.keepsFrom {X Y : World} (h : RF T B X Y) : KeepsFrom B X Y := ⟨h.size, h.other⟩

theorem Boxed.at {W : World} (t : TypeId) (v : Value) {m : Nat} (h : W.heap.size = m) : Boxed (W.alloc (.cells #[v] t)) m t v := by rw [← h]; exact Boxed.new W t v
theorem Boxed.own {X Y : World} {b : Nat} {t : TypeId} {v : Value} (h : Boxed X b t v) {row : Option Nat} (hg : X.grownBy Y row) {B' : Nat} (hr : ∀ r, row = some r → B' ≤ r ∧ ∃ o : Obj, X.heap[r]? = some o ∧ o.isCells = false) : Boxed Y b t v :=
  h.kept hg (fun e => by obtain ⟨_, o, ho, hc⟩ := hr b e.symm; rw [show X.heap[b]? = _ from h] at ho; cases ho; cases hc)
theorem RowKit.Below.own {n₀ : Nat} {w X Y : World} (h : Below n₀ w X) (hn : n₀ ≤ w.heap.size) {row : Option Nat} (hg : X.grownBy Y row) {B' : Nat} (hB : n₀ ≤ B') (hr : ∀ r, row = some r → B' ≤ r ∧ ∃ o : Obj, X.heap[r]? = some o ∧ o.isCells = false) : Below n₀ w Y :=
  h.grown hg (Nat.le_trans hn h.size) (fun k e => Nat.le_trans hB (hr k e).1)
theorem Boxed.drew {W : World} {b : Nat} {t : TypeId} {v : Value} (h : Boxed W b t v) : Boxed W.drew b t v := h
theorem Boxed.put {W : World} {b : Nat} {t : TypeId} {v : Value} (h : Boxed W b t v) {l : Nat} {o : Obj} (o' : Obj) (hl : W.heap[l]? = some o) (ho : o.isCells = false) : Boxed (W.putObj l o') b t v :=
  h.kept (grownBy_putObj' W l o') (fun e => by cases e; rw [show W.heap[b]? = _ from h] at hl; cases hl; cases ho)
theorem RowKit.Below.put {n₀ : Nat} {w W : World} (h : Below n₀ w W) (hn : n₀ ≤ w.heap.size) {l : Nat} {o : Obj} (hl : n₀ ≤ l) : Below n₀ w (W.putObj l o) :=
  h.grown (grownBy_putObj' W l o) (Nat.le_trans hn h.size) (fun k e => by cases e; exact hl)

theorem RoundIn.into {F : Fence} {n : Nat} {P : Program} {l : Nat} {f : FuncId} {tmps : Array Value} {assign body : Code} {w : World} {R : Ending → World → Prop} (l' : Nat) (h : RoundIn F n P l f tmps assign body w R) : RoundIn (F.inRound l') n P l f tmps assign body w R := h
theorem RowKit.Below.grownBy {n₀ : Nat} {w W : World} (h : Below n₀ w W) (hn : w.heap.size ≤ n₀) : w.grownBy W none :=
  ⟨h.os, h.tape, h.output, h.size, fun k hk _ => h.block k (by omega)⟩
theorem OwnFrom.below {β : Type} {B n₀ : Nat} {I : β → World → Prop} (h : OwnFrom B I) {s : β} {w W : World} (hs : I s w) (hb : Below n₀ w W) (hn : w.heap.size ≤ n₀) : I s W :=
  h s w W none hs (hb.grownBy hn) (fun r e => by cases e)
theorem RF.below {X Y Z : World} {n₀ : Nat} (h : RF T B X Y) (hb : Below n₀ Y Z) (hn : Y.heap.size ≤ n₀) : RF T B X Z :=
  h.grown (hb.grownBy hn) (fun j e => by cases e)
theorem Boxed.below {X Y : World} {b n₀ : Nat} {t : TypeId} {v : Value} (h : Boxed X b t v) (hb : Below n₀ X Y) (hn : b < n₀) : Boxed Y b t v := (hb.block b hn).trans h

/-- The contract of an iterator value: each element of xs, in its order, till a round says no more. -/
def Seq (T : Nat → TypeId → Bool) (P : Program) (gf : Nat) (lb : Array Value) (xs : List (Array Value)) (w : World) : Prop :=
  ∀ (l : Nat) (J : Nat → World → Prop) (Jx : World → Prop) (W : World), Below w.heap.size w W → OwnFrom W.heap.size J → OwnFrom W.heap.size (fun (_ : Unit) => Jx) →
    (∀ (k : Nat) (x : Array Value) (W1 : World), xs[k]? = some x → J k W1 → YieldAt Fence.wide 0 P l x W1 fun e W' => RF T W.heap.size W1 W' ∧ ((e = .returned (.bool true) ∧ J (k + 1) W') ∨ (e = .returned (.bool false) ∧ Jx W'))) →
    J 0 W →
    Calls P gf (#[.func (.yield l) #[] #[]] ++ lb) W fun e W' => (∃ v, e = .returned v) ∧ (J xs.length W' ∨ Jx W')

theorem Seq.later {P : Program} {gf : Nat} {lb : Array Value} {xs : List (Array Value)} {w w' : World} (h : Seq T P gf lb xs w) (hb : Below w.heap.size w w') : Seq T P gf lb xs w' :=
  fun l J Jx W hW => h l J Jx W (hb.trans (hW.mono hb.size))

/-- How the body of a round may be left. -/
def seqPost (T : Nat → TypeId → Bool) (B : Nat) (I : Nat → World → Prop) (Ix : Code → World → Prop) (k : Nat) (W : World) : Exit → Act → World → Prop
  | .normal, _, W' => RF T B W W' ∧ I (k + 1) W'
  | .ret, _, W' => RF T B W W' ∧ Ix .ret W'
  | .exit id, _, W' => RF T B W W' ∧ Ix (.exit id) W'
  | .goto t, _, W' => RF T B W W' ∧ Ix (.goto t) W'
  | .panic _, _, _ => False
  | .outgrown, _, _ => False

theorem range_seq {P : Program} {g : Operand} {ps : Array Tmp} {assign body : Code} {Q : Exit → Act → World → Prop} {a : Act} {w : World}
    {gf : Nat} {lb : Array Value} (hg : a.eval g = .func (.func gf) #[] lb) (eg : ∀ args w, (callFunc gf args).run P w = .ok (.enter gf args) w)
    {xs : List (Array Value)} {w0 : World} (hseq : Seq T P gf lb xs w0) (hb0 : Below w0.heap.size w0 w) (hps : ∀ (k : Nat) (x : Array Value), xs[k]? = some x → x.size = ps.size)
    (I : Nat → World → Prop) (Ix : Code → World → Prop) (hI : OwnFrom w.heap.size I) (hIx : ∀ c, OwnFrom w.heap.size (fun (_ : Unit) => Ix c)) (h0 : I 0 w)
    (Ax : Array Value → Act → World → Prop) (hAx : ∀ x a', OwnFrom w.heap.size (fun (_ : Unit) W => Ax x a' W))
    (hassign : ∀ (l k : Nat) (x : Array Value) (W : World) (K : Act → World → Prop), xs[k]? = some x → I k W → (∀ a' W', RF T w.heap.size W W' → I k W' → Ax x a' W' → K a' W') →
      assign.wpIn (Fence.wide.inRound l) 0 P (Exit.then K (fun _ _ _ => False)) { tmps := (ps.zip x).foldl (fun t (p, v) => t.setIfInBounds p v) a.tmps, defers := [] } W)
    (hbody : ∀ (l k : Nat) (x : Array Value) (a' : Act) (W : World), xs[k]? = some x → I k W → Ax x a' W → body.wpIn (Fence.wide.inRound l) 0 P (seqPost T w.heap.size I Ix k W) a' W)
    (hdone : ∀ (D : Nat) (W : World), w.heap.size ≤ D → I xs.length W → W.heap[D]? = some (.deferred (some [])) → Q .normal { a with defers := { target := .collected D, args := #[] } :: a.defers } W)
    (hstop : ∀ (D : Nat) (c : Code) (W : World), w.heap.size ≤ D → Ix c W → W.heap[D]? = some (.deferred (some [])) → c.wpIn Fence.wide 0 P Q { a with defers := { target := .collected D, args := #[] } :: a.defers } W) :
    (Code.rangeFunc g ps assign body).wpIn Fence.wide 0 P Q a w := by
  refine wpIn_rangeFunc fun fn hfn => ?_
  -- the record, and the two new blocks
  let rec' : LoopState → Option Code → Loop := fun st pe => { state := st, pending := pe, fn, tmps := a.tmps, params := ps, assign, body, defers := w.heap.size }
  obtain ⟨D, hD⟩ : ∃ D, D = w.heap.size := ⟨_, rfl⟩
  obtain ⟨V, hV⟩ : ∃ V, V = (w.alloc (.deferred (some []))).alloc (.loop (rec' .ready none)) := ⟨_, rfl⟩
  have hVs : V.heap.size = D + 2 := by rw [hV, hD]; simp
  have vl : V.heap[D + 1]? = some (.loop (rec' .ready none)) := by
    have h := World.alloc_heap_new (w.alloc (.deferred (some []))) (.loop (rec' .ready none))
    rw [World.size_alloc, ← hV, ← hD] at h; exact h
  have vd : V.heap[D]? = some (.deferred (some [])) := by
    rw [hV, hD]; exact (Below.heap_alloc _ _ _ (by simp)).trans (World.alloc_heap_new w _)
  have vI : I 0 V := by rw [hV]; exact hI.alloc _ (hI.alloc _ h0)
  have vb : Below w0.heap.size w0 V := by
    rw [hV]; exact hb0.trans ((((Below.refl _ w).alloc (Nat.le_refl _) _).alloc (by simp) _).mono hb0.size)
  -- what the iterator may turn is neither cells nor the two
  have keep : ∀ {A C : World} {row : Option Nat}, A.grownBy C row → (∀ r, row = some r → V.heap.size ≤ r ∧ ∃ o : Obj, A.heap[r]? = some o ∧ o.isCells = false) → ∀ j o, j < D + 2 → A.heap[j]? = some o → C.heap[j]? = some o :=
    fun hg' hr j o hj ho => (hg'.block j (Array.getElem?_eq_some_iff.1 ho).1 (fun e => by have := (hr j e.symm).1; omega)).trans ho
  have wide : ∀ {A : World} {row : Option Nat}, (∀ r, row = some r → V.heap.size ≤ r ∧ ∃ o : Obj, A.heap[r]? = some o ∧ o.isCells = false) → (∀ r, row = some r → w.heap.size ≤ r ∧ ∃ o : Obj, A.heap[r]? = some o ∧ o.isCells = false) :=
    fun hr r e => ⟨by have := (hr r e).1; omega, (hr r e).2⟩
  refine ⟨D + 1, [{ target := .collected D, args := #[] }], V, { target := .fn (.func gf) lb, args := #[.func (.yield (D + 1)) #[] #[]] }, V, gf, #[.func (.yield (D + 1)) #[] #[]] ++ lb, V, ?_, ?_, fun _ _ => trivial, ?_, fun h => (by cases h), ?_⟩
  · rw [hV, hD]; exact run_enterLoop_outer _ _ _ _ _
  · simp only [resolve, hg]; simp [go_sem]
  · simp [invoke, go_sem, eg]
  refine (callsIn_wide.2 (hseq (D + 1)
    (fun k W => I k W ∧ W.heap[D + 1]? = some (.loop (rec' .ready none)) ∧ W.heap[D]? = some (.deferred (some [])))
    (fun W => ∃ c, Ix c W ∧ W.heap[D + 1]? = some (.loop (rec' .done (some c))) ∧ W.heap[D]? = some (.deferred (some [])))
    V vb (fun s A C row hs hg' hr => ⟨hI s A C row hs.1 hg' (wide hr), keep hg' hr _ _ (by omega) hs.2.1, keep hg' hr _ _ (by omega) hs.2.2⟩)
    (fun s A C row hs hg' hr => by
      obtain ⟨c, hc, hl, hk⟩ := hs
      exact ⟨c, hIx c s A C row hc hg' (wide hr), keep hg' hr _ _ (by omega) hl, keep hg' hr _ _ (by omega) hk⟩)
    ?_ ⟨vI, vl, vd⟩)).mono ?_
  · -- one round
    rintro k x W hx ⟨hi, hl, hk⟩
    have hy := run_yield (P := P) (args := x) hl (hps k x hx)
    refine ⟨fn, _, assign, body, hy, roundIn_of_wpIn trivial (hassign _ k x W _ hx hi ?_)⟩
    intro a' Wa hra hia haa
    have hl1 := hra.other _ _ (by omega) hl rfl
    have hk1 := hra.other _ _ (by omega) hk rfl
    have hlt : D + 1 < Wa.heap.size := (Array.getElem?_eq_some_iff.1 hl1).1
    refine ⟨_, run_beginRound hl1 rfl, ?_⟩
    have r1 : RF T (D + 2) W (Wa.putObj (D + 1) (.loop { rec' .ready none with state := .busy })) := (hra.mono (by omega)).put hl1 rfl (by omega)
    have hl2 : (Wa.putObj (D + 1) (.loop { rec' .ready none with state := .busy })).heap[D + 1]? = some (.loop { rec' .ready none with state := .busy }) := World.putObj_heap_same hlt
    have hk2 : (Wa.putObj (D + 1) (.loop { rec' .ready none with state := .busy })).heap[D]? = some (.deferred (some [])) := (World.putObj_heap_other (by omega)).trans hk1
    refine wpIn_mono (hbody _ k x a' _ hx (hI.putObj _ hia (by omega) hl1 rfl) ((hAx x a').putObj (s := ()) _ haa (by omega) hl1 rfl)) ?_
    generalize (Wa.putObj (D + 1) (.loop { rec' .ready none with state := .busy })) = Wb at r1 hl2 hk2 ⊢
    have fin : ∀ (jump : Option Code) (W3 : World), RF T w.heap.size Wb W3 → ∃ W4,
        (Instr.endRound (D + 1) jump).run P W3 = .ok (.bool jump.isNone) W4 ∧ W3.heap[D + 1]? = some (.loop { rec' .ready none with state := .busy }) ∧ W4 = W3.putObj (D + 1) (.loop (rec' (if jump.isNone then .ready else .done) jump)) ∧
        W4.heap[D + 1]? = some (.loop (rec' (if jump.isNone then .ready else .done) jump)) ∧ W4.heap[D]? = some (.deferred (some [])) ∧ RF T V.heap.size W W4 := fun jump W3 hr3 => by
      have hl3 := hr3.other _ _ (by omega) hl2 rfl
      have hk3 := hr3.other _ _ (by omega) hk2 rfl
      refine ⟨_, run_endRound jump hl3, hl3, rfl, World.putObj_heap_same (Array.getElem?_eq_some_iff.1 hl3).1, (World.putObj_heap_other (by omega)).trans hk3, ?_⟩
      rw [hVs]
      exact (r1.trans (hr3.mono (by omega))).put hl3 rfl (by omega)
    rintro e a3 W3 hp
    cases e with
    | normal =>
      obtain ⟨W4, h1, h2, rfl, h4, h5, h6⟩ := fin none W3 hp.1
      exact ⟨_, _, h1, h6, .inl ⟨rfl, hI.putObj _ hp.2 (by omega) h2 rfl, h4, h5⟩⟩
    | ret =>
      obtain ⟨W4, h1, h2, rfl, h4, h5, h6⟩ := fin (some .ret) W3 hp.1
      exact ⟨_, _, h1, h6, .inr ⟨rfl, .ret, (hIx _).putObj (s := ()) _ hp.2 (by omega) h2 rfl, h4, h5⟩⟩
    | exit id =>
      obtain ⟨W4, h1, h2, rfl, h4, h5, h6⟩ := fin (some (.exit id)) W3 hp.1
      exact ⟨_, _, h1, h6, .inr ⟨rfl, .exit id, (hIx _).putObj (s := ()) _ hp.2 (by omega) h2 rfl, h4, h5⟩⟩
    | goto t =>
      obtain ⟨W4, h1, h2, rfl, h4, h5, h6⟩ := fin (some (.goto t)) W3 hp.1
      exact ⟨_, _, h1, h6, .inr ⟨rfl, .goto t, (hIx _).putObj (s := ()) _ hp.2 (by omega) h2 rfl, h4, h5⟩⟩
    | panic ch => exact hp.elim
    | outgrown => exact hp.elim
  · rintro e W2 ⟨⟨v, rfl⟩, (⟨hi, hl, hk⟩ | ⟨c, hc, hl, hk⟩)⟩
    · exact ⟨none, _, run_endLoop hl (by simp [rec']), hdone D _ (by omega) (hI.putObj _ hi (by omega) hl rfl) ((World.putObj_heap_other (by omega)).trans hk)⟩
    · exact ⟨some c, _, run_endLoop hl (by simp [rec']), hstop D c _ (by omega) ((hIx c).putObj (s := ()) _ hc (by omega) hl rfl) ((World.putObj_heap_other (by omega)).trans hk)⟩

#print axioms range_seq
end Go
