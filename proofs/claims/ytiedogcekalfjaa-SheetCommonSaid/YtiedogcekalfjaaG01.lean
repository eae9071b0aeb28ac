/- My own law for 'for x := range f': the list of the elements that f yields is known ahead; f may itself be a loop over another function, whose rounds call yield. Conditions: a walk at the fence that asks nothing; no panic and no defer in a round. -/
import Derived.RangeFuncNested
import Derived.RangeFuncBound
import Derived.RangeFuncCalls
import Derived.RangeFuncLeaves
import Derived.Laws.RangeAny
import Derived.RowKit
import Derived.Test.YtiedogcekalfjaaProg
import Derived.Shelf.Abstract
import Derived.Shelf.RegionOpen
import Derived.WalkKit
import Derived.OwnWalkIn
import Derived.TacticsInMore
import Derived.LoopNIn
import Derived.LoopIn
import Derived.Lib.OthersKept
import Derived.Lib.Hide
import Derived.OrdersIn
import Derived.Sort.QuietThIn
import Derived.Sort.QuietIn
import Derived.TacticsIn
import Derived.Maps.AppendAt
import Derived.Test.YtiedogcekalfjaaShelf
import Derived.Laws.Runes
import Derived.Lib.Bytealg
import Derived.Deep.QuietTactic
import Derived.BigQuiet
import Derived.Deep.LoopGhost
import Derived.WalkMore
import Derived.IntWalk
import Derived.OneCell
namespace Go
open Go.RowKit

/-- What a round keeps: whatever is no cells and lies at or beyond B, and all cells of the types in T. -/
structure RF (T : Nat → TypeId → Bool) (B : Nat) (W W' : World) : Prop where
  size : W.heap.size ≤ W'.heap.size
  other : ∀ (k : Nat) (o : Obj), B ≤ k → W.heap[k]? = some o → o.isCells = false → W'.heap[k]? = some o
  steady : ∀ (k : Nat) (c : Array Value) (t : TypeId) (z : Nat × Nat), T k t = true → W.heap[k]? = some (.cells c t z) → W'.heap[k]? = some (.cells c t z)

variable {T : Nat → TypeId → Bool} {B : Nat}
theorem RF.refl (W : World) : RF T B W W := ⟨Nat.le_refl _, fun _ _ _ h _ => h, fun _ _ _ _ _ h => h⟩
theorem RF.trans {X Y Z : World} (h : RF T B X Y) (k : RF T B Y Z) : RF T B X Z :=
  ⟨Nat.le_trans h.size k.size, fun i o hB hi ho => k.other i o hB (h.other i o hB hi ho) ho, fun i c t z ht hi => k.steady i c t z ht (h.steady i c t z ht hi)⟩
theorem RF.mono {B' : Nat} {X Y : World} (h : RF T B X Y) (hB : B ≤ B') : RF T B' X Y := ⟨h.size, fun i o hi => h.other i o (Nat.le_trans hB hi), h.steady⟩
theorem RF.alloc {X Y : World} (h : RF T B X Y) (o : Obj) : RF T B X (Y.alloc o) :=
  h.trans ⟨by simp, fun k _ _ hk _ => (Below.heap_alloc Y o k (Array.getElem?_eq_some_iff.1 hk).1).trans hk, fun k _ _ _ _ hk => (Below.heap_alloc Y o k (Array.getElem?_eq_some_iff.1 hk).1).trans hk⟩
theorem RF.drew {X Y : World} (h : RF T B X Y) : RF T B X Y.drew := ⟨h.size, h.other, h.steady⟩
/-- A step that turns one block of cells, of a type that is not in T. -/
theorem RF.grown {X Y Z : World} (h : RF T B X Y) {row : Option Nat} (hg : Y.grownBy Z row)
    (hr : ∀ j, row = some j → ∀ o, Y.heap[j]? = some o → ∃ c t z, o = .cells c t z ∧ T j t = false) : RF T B X Z := by
  refine h.trans ⟨hg.size, fun k o _ hk ho => ?_, fun k c t z ht hk => ?_⟩
  · refine (hg.block k (Array.getElem?_eq_some_iff.1 hk).1 (fun e => ?_)).trans hk
    obtain ⟨c, t, z, rfl, _⟩ := hr k e.symm o hk
    simp [Obj.isCells] at ho
  · refine (hg.block k (Array.getElem?_eq_some_iff.1 hk).1 (fun e => ?_)).trans hk
    obtain ⟨c', t', z', h1, h2⟩ := hr k e.symm _ hk
    cases h1
    rw [h2] at ht; cases ht
theorem RF.set {X Y : World} (h : RF T B X Y) {b : Nat} {t : TypeId} {u : Value} (hb : Boxed Y b t u) (ht : T b t = false) (v : Value) : RF T B X (Y.setCell ⟨b, 0, none⟩ v) :=
  h.grown (grownBy_setCell' Y b v) (fun j e o ho => by cases e; rw [show Y.heap[b]? = _ from hb] at ho; cases ho; exact ⟨_, _, _, rfl, ht⟩)
theorem RF.put {X Y : World} (h : RF T B X Y) {l : Nat} {o o' : Obj} (hl : Y.heap[l]? = some o) (ho : o.isCells = false) (hB : l < B) : RF T B X (Y.putObj l o') := by
  refine h.trans ⟨by simp, fun k _ hk hk' _ => (World.putObj_heap_other (by omega)).trans hk', fun k c t z _ hk => (World.putObj_heap_other (fun e => ?_)).trans hk⟩
  subst e; rw [hl] at hk; cases hk; simp [Obj.isCells] at ho
theorem RF.boxed {X Y : World} (h : RF T B X Y) {b : Nat} {t : TypeId} {u : Value} (hb : Boxed X b t u) (ht : T b t = true) : Boxed Y b t u := h.steady b _ t _ ht hb
theorem RF.keepsFrom {X Y : World} (h : RF T B X Y) : KeepsFrom B X Y := ⟨h.size, h.other⟩

theorem Boxed.at {W : World} (t : TypeId) (v : Value) {m : Nat} (h : W.heap.size = m) : Boxed (W.alloc (.cells #[v] t)) m t v := by rw [← h]; exact Boxed.new W t v
theorem Boxed.own {X Y : World} {b : Nat} {t : TypeId} {v : Value} (h : Boxed X b t v) {row : Option Nat} (hg : X.grownBy Y row) {B' : Nat} (hr : ∀ r, row = some r → B' ≤ r ∧ ∃ o : Obj, X.heap[r]? = some o ∧ o.isCells = false) : Boxed Y b t v :=
  h.kept hg (fun e => by obtain ⟨_, o, ho, hc⟩ := hr b e.symm; rw [show X.heap[b]? = _ from h] at ho; cases ho; cases hc)
theorem RowKit.Below.own {n₀ : Nat} {w X Y : World} (h : Below n₀ w X) (hn : n₀ ≤ w.heap.size) {row : Option Nat} (hg : X.grownBy Y row) {B' : Nat} (hB : n₀ ≤ B') (hr : ∀ r, row = some r → B' ≤ r ∧ ∃ o : Obj, X.heap[r]? = some o ∧ o.isCells = false) : Below n₀ w Y :=
  h.grown hg (Nat.le_trans hn h.size) (fun k e => Nat.le_trans hB (hr k e).1)
theorem Boxed.drew {W : World} {b : Nat} {t : TypeId} {v : Value} (h : Boxed W b t v) : Boxed W.drew b t v := h
theorem Boxed.put {W : World} {b : Nat} {t : TypeId} {v : Value} (h : Boxed W b t v) {l : Nat} {o : Obj} (o' : Obj) (hl : W.heap[l]? = some o) (ho : o.isCells = false) : Boxed (W.putObj l o') b t v :=
  h.kept (grownBy_putObj' W l o') (fun e => by cases e; rw [show W.heap[b]? = _ from h] at hl; cases hl; cases ho)
theorem RowKit.Below.put {n₀ : Nat} {w W : World} (h : Below n₀ w W) (hn : n₀ ≤ w.heap.size) {l : Nat} {o : Obj} (hl : n₀ ≤ l) : Below n₀ w (W.putObj l o) :=
  h.grown (grownBy_putObj' W l o) (Nat.le_trans hn h.size) (fun k e => by cases e; exact hl)

theorem RoundIn.into {F : Fence} {n : Nat} {P : Program} {l : Nat} {f : FuncId} {tmps : Array Value} {assign body : Code} {w : World} {R : Ending → World → Prop} (l' : Nat) (h : RoundIn F n P l f tmps assign body w R) : RoundIn (F.inRound l') n P l f tmps assign body w R := h
theorem RowKit.Below.grownBy {n₀ : Nat} {w W : World} (h : Below n₀ w W) (hn : w.heap.size ≤ n₀) : w.grownBy W none :=
  ⟨h.os, h.tape, h.output, h.size, fun k hk _ => h.block k (by omega)⟩
theorem OwnFrom.below {β : Type} {B n₀ : Nat} {I : β → World → Prop} (h : OwnFrom B I) {s : β} {w W : World} (hs : I s w) (hb : Below n₀ w W) (hn : w.heap.size ≤ n₀) : I s W :=
  h s w W none hs (hb.grownBy hn) (fun r e => by cases e)
theorem RF.below {X Y Z : World} {n₀ : Nat} (h : RF T B X Y) (hb : Below n₀ Y Z) (hn : Y.heap.size ≤ n₀) : RF T B X Z :=
  h.grown (hb.grownBy hn) (fun j e => by cases e)
theorem Boxed.below {X Y : World} {b n₀ : Nat} {t : TypeId} {v : Value} (h : Boxed X b t v) (hb : Below n₀ X Y) (hn : b < n₀) : Boxed Y b t v := (hb.block b hn).trans h

/-- The contract of an iterator value: each element of xs, in its order, till a round says no more. -/
def Seq (T : Nat → TypeId → Bool) (P : Program) (gf : Nat) (lb : Array Value) (xs : List (Array Value)) (w : World) : Prop :=
  ∀ (l : Nat) (J : Nat → World → Prop) (Jx : World → Prop) (W : World), Below w.heap.size w W → OwnFrom W.heap.size J → OwnFrom W.heap.size (fun (_ : Unit) => Jx) →
    (∀ (k : Nat) (x : Array Value) (W1 : World), xs[k]? = some x → J k W1 → YieldAt Fence.wide 0 P l x W1 fun e W' => RF T W.heap.size W1 W' ∧ ((e = .returned (.bool true) ∧ J (k + 1) W') ∨ (e = .returned (.bool false) ∧ Jx W'))) →
    J 0 W →
    Calls P gf (#[.func (.yield l) #[] #[]] ++ lb) W fun e W' => (∃ v, e = .returned v) ∧ (J xs.length W' ∨ Jx W')

theorem Seq.later {P : Program} {gf : Nat} {lb : Array Value} {xs : List (Array Value)} {w w' : World} (h : Seq T P gf lb xs w) (hb : Below w.heap.size w w') : Seq T P gf lb xs w' :=
  fun l J Jx W hW => h l J Jx W (hb.trans (hW.mono hb.size))

/-- How the body of a round may be left. -/
def seqPost (T : Nat → TypeId → Bool) (B : Nat) (I : Nat → World → Prop) (Ix : Code → World → Prop) (k : Nat) (W : World) : Exit → Act → World → Prop
  | .normal, _, W' => RF T B W W' ∧ I (k + 1) W'
  | .ret, _, W' => RF T B W W' ∧ Ix .ret W'
  | .exit id, _, W' => RF T B W W' ∧ Ix (.exit id) W'
  | .goto t, _, W' => RF T B W W' ∧ Ix (.goto t) W'
  | .panic _, _, _ => False
  | .outgrown, _, _ => False

theorem range_seq {P : Program} {g : Operand} {ps : Array Tmp} {assign body : Code} {Q : Exit → Act → World → Prop} {a : Act} {w : World}
    {gf : Nat} {lb : Array Value} (hg : a.eval g = .func (.func gf) #[] lb) (eg : ∀ args w, (callFunc gf args).run P w = .ok (.enter gf args) w)
    {xs : List (Array Value)} {w0 : World} (hseq : Seq T P gf lb xs w0) (hb0 : Below w0.heap.size w0 w) (hps : ∀ (k : Nat) (x : Array Value), xs[k]? = some x → x.size = ps.size)
    (I : Nat → World → Prop) (Ix : Code → World → Prop) (hI : OwnFrom w.heap.size I) (hIx : ∀ c, OwnFrom w.heap.size (fun (_ : Unit) => Ix c)) (h0 : I 0 w)
    (Ax : Array Value → Act → World → Prop) (hAx : ∀ x a', OwnFrom w.heap.size (fun (_ : Unit) W => Ax x a' W))
    (hassign : ∀ (l k : Nat) (x : Array Value) (W : World) (K : Act → World → Prop), xs[k]? = some x → I k W → (∀ a' W', RF T w.heap.size W W' → I k W' → Ax x a' W' → K a' W') →
      assign.wpIn (Fence.wide.inRound l) 0 P (Exit.then K (fun _ _ _ => False)) { tmps := (ps.zip x).foldl (fun t (p, v) => t.setIfInBounds p v) a.tmps, defers := [] } W)
    (hbody : ∀ (l k : Nat) (x : Array Value) (a' : Act) (W : World), xs[k]? = some x → I k W → Ax x a' W → body.wpIn (Fence.wide.inRound l) 0 P (seqPost T w.heap.size I Ix k W) a' W)
    (hdone : ∀ (D : Nat) (W : World), w.heap.size ≤ D → I xs.length W → W.heap[D]? = some (.deferred (some [])) → Q .normal { a with defers := { target := .collected D, args := #[] } :: a.defers } W)
    (hstop : ∀ (D : Nat) (c : Code) (W : World), w.heap.size ≤ D → Ix c W → W.heap[D]? = some (.deferred (some [])) → c.wpIn Fence.wide 0 P Q { a with defers := { target := .collected D, args := #[] } :: a.defers } W) :
    (Code.rangeFunc g ps assign body).wpIn Fence.wide 0 P Q a w := by
  refine wpIn_rangeFunc fun fn hfn => ?_
  -- the record, and the two new blocks
  let rec' : LoopState → Option Code → Loop := fun st pe => { state := st, pending := pe, fn, tmps := a.tmps, params := ps, assign, body, defers := w.heap.size }
  obtain ⟨D, hD⟩ : ∃ D, D = w.heap.size := ⟨_, rfl⟩
  obtain ⟨V, hV⟩ : ∃ V, V = (w.alloc (.deferred (some []))).alloc (.loop (rec' .ready none)) := ⟨_, rfl⟩
  have hVs : V.heap.size = D + 2 := by rw [hV, hD]; simp
  have vl : V.heap[D + 1]? = some (.loop (rec' .ready none)) := by
    have h := World.alloc_heap_new (w.alloc (.deferred (some []))) (.loop (rec' .ready none))
    rw [World.size_alloc, ← hV, ← hD] at h; exact h
  have vd : V.heap[D]? = some (.deferred (some [])) := by
    rw [hV, hD]; exact (Below.heap_alloc _ _ _ (by simp)).trans (World.alloc_heap_new w _)
  have vI : I 0 V := by rw [hV]; exact hI.alloc _ (hI.alloc _ h0)
  have vb : Below w0.heap.size w0 V := by
    rw [hV]; exact hb0.trans ((((Below.refl _ w).alloc (Nat.le_refl _) _).alloc (by simp) _).mono hb0.size)
  -- what the iterator may turn is neither cells nor the two
  have keep : ∀ {A C : World} {row : Option Nat}, A.grownBy C row → (∀ r, row = some r → V.heap.size ≤ r ∧ ∃ o : Obj, A.heap[r]? = some o ∧ o.isCells = false) → ∀ j o, j < D + 2 → A.heap[j]? = some o → C.heap[j]? = some o :=
    fun hg' hr j o hj ho => (hg'.block j (Array.getElem?_eq_some_iff.1 ho).1 (fun e => by have := (hr j e.symm).1; omega)).trans ho
  have wide : ∀ {A : World} {row : Option Nat}, (∀ r, row = some r → V.heap.size ≤ r ∧ ∃ o : Obj, A.heap[r]? = some o ∧ o.isCells = false) → (∀ r, row = some r → w.heap.size ≤ r ∧ ∃ o : Obj, A.heap[r]? = some o ∧ o.isCells = false) :=
    fun hr r e => ⟨by have := (hr r e).1; omega, (hr r e).2⟩
  refine ⟨D + 1, [{ target := .collected D, args := #[] }], V, { target := .fn (.func gf) lb, args := #[.func (.yield (D + 1)) #[] #[]] }, V, gf, #[.func (.yield (D + 1)) #[] #[]] ++ lb, V, ?_, ?_, fun _ _ => trivial, ?_, fun h => (by cases h), ?_⟩
  · rw [hV, hD]; exact run_enterLoop_outer _ _ _ _ _
  · simp only [resolve, hg]; simp [go_sem]
  · simp [invoke, go_sem, eg]
  refine (callsIn_wide.2 (hseq (D + 1)
    (fun k W => I k W ∧ W.heap[D + 1]? = some (.loop (rec' .ready none)) ∧ W.heap[D]? = some (.deferred (some [])))
    (fun W => ∃ c, Ix c W ∧ W.heap[D + 1]? = some (.loop (rec' .done (some c))) ∧ W.heap[D]? = some (.deferred (some [])))
    V vb (fun s A C row hs hg' hr => ⟨hI s A C row hs.1 hg' (wide hr), keep hg' hr _ _ (by omega) hs.2.1, keep hg' hr _ _ (by omega) hs.2.2⟩)
    (fun s A C row hs hg' hr => by
      obtain ⟨c, hc, hl, hk⟩ := hs
      exact ⟨c, hIx c s A C row hc hg' (wide hr), keep hg' hr _ _ (by omega) hl, keep hg' hr _ _ (by omega) hk⟩)
    ?_ ⟨vI, vl, vd⟩)).mono ?_
  · -- one round
    rintro k x W hx ⟨hi, hl, hk⟩
    have hy := run_yield (P := P) (args := x) hl (hps k x hx)
    refine ⟨fn, _, assign, body, hy, roundIn_of_wpIn trivial (hassign _ k x W _ hx hi ?_)⟩
    intro a' Wa hra hia haa
    have hl1 := hra.other _ _ (by omega) hl rfl
    have hk1 := hra.other _ _ (by omega) hk rfl
    have hlt : D + 1 < Wa.heap.size := (Array.getElem?_eq_some_iff.1 hl1).1
    refine ⟨_, run_beginRound hl1 rfl, ?_⟩
    have r1 : RF T (D + 2) W (Wa.putObj (D + 1) (.loop { rec' .ready none with state := .busy })) := (hra.mono (by omega)).put hl1 rfl (by omega)
    have hl2 : (Wa.putObj (D + 1) (.loop { rec' .ready none with state := .busy })).heap[D + 1]? = some (.loop { rec' .ready none with state := .busy }) := World.putObj_heap_same hlt
    have hk2 : (Wa.putObj (D + 1) (.loop { rec' .ready none with state := .busy })).heap[D]? = some (.deferred (some [])) := (World.putObj_heap_other (by omega)).trans hk1
    refine wpIn_mono (hbody _ k x a' _ hx (hI.putObj _ hia (by omega) hl1 rfl) ((hAx x a').putObj (s := ()) _ haa (by omega) hl1 rfl)) ?_
    generalize (Wa.putObj (D + 1) (.loop { rec' .ready none with state := .busy })) = Wb at r1 hl2 hk2 ⊢
    have fin : ∀ (jump : Option Code) (W3 : World), RF T w.heap.size Wb W3 → ∃ W4,
        (Instr.endRound (D + 1) jump).run P W3 = .ok (.bool jump.isNone) W4 ∧ W3.heap[D + 1]? = some (.loop { rec' .ready none with state := .busy }) ∧ W4 = W3.putObj (D + 1) (.loop (rec' (if jump.isNone then .ready else .done) jump)) ∧
        W4.heap[D + 1]? = some (.loop (rec' (if jump.isNone then .ready else .done) jump)) ∧ W4.heap[D]? = some (.deferred (some [])) ∧ RF T V.heap.size W W4 := fun jump W3 hr3 => by
      have hl3 := hr3.other _ _ (by omega) hl2 rfl
      have hk3 := hr3.other _ _ (by omega) hk2 rfl
      refine ⟨_, run_endRound jump hl3, hl3, rfl, World.putObj_heap_same (Array.getElem?_eq_some_iff.1 hl3).1, (World.putObj_heap_other (by omega)).trans hk3, ?_⟩
      rw [hVs]
      exact (r1.trans (hr3.mono (by omega))).put hl3 rfl (by omega)
    rintro e a3 W3 hp
    cases e with
    | normal =>
      obtain ⟨W4, h1, h2, rfl, h4, h5, h6⟩ := fin none W3 hp.1
      exact ⟨_, _, h1, h6, .inl ⟨rfl, hI.putObj _ hp.2 (by omega) h2 rfl, h4, h5⟩⟩
    | ret =>
      obtain ⟨W4, h1, h2, rfl, h4, h5, h6⟩ := fin (some .ret) W3 hp.1
      exact ⟨_, _, h1, h6, .inr ⟨rfl, .ret, (hIx _).putObj (s := ()) _ hp.2 (by omega) h2 rfl, h4, h5⟩⟩
    | exit id =>
      obtain ⟨W4, h1, h2, rfl, h4, h5, h6⟩ := fin (some (.exit id)) W3 hp.1
      exact ⟨_, _, h1, h6, .inr ⟨rfl, .exit id, (hIx _).putObj (s := ()) _ hp.2 (by omega) h2 rfl, h4, h5⟩⟩
    | goto t =>
      obtain ⟨W4, h1, h2, rfl, h4, h5, h6⟩ := fin (some (.goto t)) W3 hp.1
      exact ⟨_, _, h1, h6, .inr ⟨rfl, .goto t, (hIx _).putObj (s := ()) _ hp.2 (by omega) h2 rfl, h4, h5⟩⟩
    | panic ch => exact hp.elim
    | outgrown => exact hp.elim
  · rintro e W2 ⟨⟨v, rfl⟩, (⟨hi, hl, hk⟩ | ⟨c, hc, hl, hk⟩)⟩
    · exact ⟨none, _, run_endLoop hl (by simp [rec']), hdone D _ (by omega) (hI.putObj _ hi (by omega) hl rfl) ((World.putObj_heap_other (by omega)).trans hk)⟩
    · exact ⟨some c, _, run_endLoop hl (by simp [rec']), hstop D c _ (by omega) ((hIx c).putObj (s := ()) _ hc (by omega) hl rfl) ((World.putObj_heap_other (by omega)).trans hk)⟩

#print axioms range_seq
end Go
/- Plain facts on the parts of a text that line feeds part, and on its lines; no program. -/
namespace Go.Cur

theorem get_of (s : ByteArray) (k : Nat) (h : k < s.size) : s.get! k = s[k]'h := by
  have := get_at s k h; simpa using this
theorem list_get (s : ByteArray) (k : Nat) (h : k < s.size) : s.data.toList[k]? = some (s[k]'h) := by
  have h' : k < s.data.toList.length := by simpa using h
  rw [List.getElem?_eq_getElem h']; rfl

/-- A line feed is met as one. -/
theorem decode_feed (s : ByteArray) (pos : Nat) (h : pos < s.size) (hb : s[pos]'h = 10) : Utf8.decode s pos = (10, 1) := by
  rw [decode_ascii s pos h (by rw [hb]; decide), hb]; rfl

theorem cont_ne (b : UInt8) (h : (b.toNat / 64 == 2) = true) : b ≠ 10 := by
  intro e; subst e; revert h; decide

/-- Any other sign is none, and has none in it. -/
theorem decode_sign (s : ByteArray) (pos : Nat) (h : pos < s.size) (hb : s[pos]'h ≠ 10) :
    (Utf8.decode s pos).1 ≠ 10 ∧ 1 ≤ (Utf8.decode s pos).2 ∧ pos + (Utf8.decode s pos).2 ≤ s.size ∧ ∀ j, pos ≤ j → j < pos + (Utf8.decode s pos).2 → s.get! j ≠ 10 := by
  have hb' : s.get! (pos + 0) ≠ 10 := by rw [get_at s pos h]; exact hb
  by_cases ha : (s[pos]'h).toNat < 128
  · rw [decode_ascii s pos h ha]
    refine ⟨fun e => hb ?_, Nat.le_refl _, h, fun j h1 h2 => ?_⟩
    · have e' : (s[pos]'h).toNat = (10 : UInt8).toNat := e
      exact UInt8.toNat_inj.1 e'
    · have : j = pos := by simp at h2; omega
      subst this; simpa using hb'
  · have hh := decode_high s pos h (by omega)
    refine ⟨by omega, hh.2, ?_⟩
    have hn : ¬ (s.get! (pos + 0)).toNat < 128 := by rw [get_at s pos h]; exact ha
    clear hh ha
    simp only [Utf8.decode]
    rw [if_neg (by simpa using hn)]
    have one : pos + 1 ≤ s.size ∧ ∀ j, pos ≤ j → j < pos + 1 → s.get! j ≠ 10 := ⟨h, fun j h1 h2 => by
      have : j = pos := by omega
      subst this; simpa using hb'⟩
    have two : ∀ m, (m ≤ 3) → (∀ k, 1 ≤ k → k ≤ m → (decide (pos + k < s.size) && (s.get! (pos + k)).toNat / 64 == 2) = true) → pos + (m + 1) ≤ s.size ∧ ∀ j, pos ≤ j → j < pos + (m + 1) → s.get! j ≠ 10 := by
      intro m hm hk
      refine ⟨?_, fun j h1 h2 => ?_⟩
      · rcases Nat.eq_zero_or_pos m with rfl | hp
        · exact h
        · have := hk m hp (Nat.le_refl _)
          simp at this; omega
      · by_cases e : j = pos
        · subst e; simpa using hb'
        · have := hk (j - pos) (by omega) (by omega)
          rw [Bool.and_eq_true] at this
          have := cont_ne _ this.2
          rwa [show pos + (j - pos) = j from by omega] at this
    split
    · rename_i hc
      simp only [Bool.and_eq_true] at hc
      split
      · refine two 1 (by omega) fun k h1 h2 => ?_
        obtain rfl : k = 1 := by omega
        simpa using hc.2
      · exact one
    · split
      · rename_i hc
        simp only [Bool.and_eq_true] at hc
        split
        · refine two 2 (by omega) fun k h1 h2 => ?_
          rcases (by omega : k = 1 ∨ k = 2) with rfl | rfl
          · simpa using hc.1.2
          · simpa using hc.2
        · exact one
      · split
        · rename_i hc
          simp only [Bool.and_eq_true] at hc
          split
          · refine two 3 (by omega) fun k h1 h2 => ?_
            rcases (by omega : k = 1 ∨ k = 2 ∨ k = 3) with rfl | rfl | rfl
            · simpa using hc.1.1.2
            · simpa using hc.1.2
            · simpa using hc.2
          · exact one
        · exact one

/-- The parts of the rest l of a text, base bytes being ahead of it, the last part having begun at a. -/
def spansFrom : List UInt8 → Nat → Nat → List (Nat × Nat)
  | [], base, a => [(a, base)]
  | c :: r, base, a => if c = 10 then (a, base) :: spansFrom r (base + 1) (base + 1) else spansFrom r (base + 1) a
def spans (l : List UInt8) : List (Nat × Nat) := spansFrom l 0 0

theorem spans_feed (l : List UInt8) (p a : Nat) (h : l[p]? = some 10) : spansFrom (l.drop p) p a = (a, p) :: spansFrom (l.drop (p + 1)) (p + 1) (p + 1) := by
  obtain ⟨hp, he⟩ := List.getElem?_eq_some_iff.1 h
  rw [List.drop_eq_getElem_cons hp, he]; rfl
theorem spans_sign (l : List UInt8) (a : Nat) (w : Nat) : ∀ (p : Nat), p + w ≤ l.length → (∀ j, p ≤ j → j < p + w → l[j]? ≠ some 10) → spansFrom (l.drop p) p a = spansFrom (l.drop (p + w)) (p + w) a := by
  induction w with
  | zero => intro p _ _; rfl
  | succ w ih =>
    intro p hp hj
    have hlt : p < l.length := by omega
    have h1 := hj p (Nat.le_refl _) (by omega)
    rw [List.getElem?_eq_getElem hlt] at h1
    rw [List.drop_eq_getElem_cons hlt, spansFrom, if_neg (fun e => h1 (by rw [e]))]
    rw [ih (p + 1) (by omega) (fun j h2 h3 => hj j (by omega) (by omega)), show p + 1 + w = p + (w + 1) from by omega]
theorem spans_end (l : List UInt8) (a : Nat) : spansFrom (l.drop l.length) l.length a = [(a, l.length)] := by simp [spansFrom]

theorem spans_mem : ∀ {l : List UInt8} {base a : Nat}, a ≤ base → ∀ p ∈ spansFrom l base a, a ≤ p.1 ∧ p.1 ≤ p.2 ∧ p.2 ≤ base + l.length
  | [], base, a, h, p, hp => by
    have : p = (a, base) := by simpa [spansFrom] using hp
    subst this; exact ⟨Nat.le_refl _, h, by simp⟩
  | c :: r, base, a, h, p, hp => by
    unfold spansFrom at hp
    split at hp
    · rcases List.mem_cons.1 hp with rfl | hp
      · exact ⟨Nat.le_refl _, h, by simp⟩
      · have := spans_mem (Nat.le_refl _) p hp
        simp only [List.length_cons]; omega
    · have := spans_mem (by omega) p hp
      simp only [List.length_cons]; omega
theorem spans_len : ∀ (l : List UInt8) (base a : Nat), (spansFrom l base a).length ≤ l.length + 1
  | [], _, _ => by simp [spansFrom]
  | c :: r, base, a => by
    unfold spansFrom
    split
    · have := spans_len r (base + 1) (base + 1); simp only [List.length_cons]; omega
    · have := spans_len r (base + 1) a; simp only [List.length_cons]; omega
theorem spans_get {l : List UInt8} {k a b : Nat} (h : (spans l)[k]? = some (a, b)) : a ≤ b ∧ b ≤ l.length ∧ k ≤ l.length := by
  obtain ⟨hk, he⟩ := List.getElem?_eq_some_iff.1 h
  have h1 := spans_mem (l := l) (base := 0) (a := 0) (Nat.le_refl _) (a, b) (by rw [← he]; exact List.getElem_mem _)
  have h2 := spans_len l 0 0
  simp only [spans] at hk
  refine ⟨h1.2.1, by simpa using h1.2.2, by omega⟩

/-- What is drawn off a list, one at a time. -/
theorem drop_step {α : Type} {l : List α} {k : Nat} {x : α} {r : List α} (h : l.drop k = x :: r) : l[k]? = some x ∧ l.drop (k + 1) = r := by
  have h1 : (l.drop k)[0]? = some x := by rw [h]; rfl
  have h2 : (l.drop k).drop 1 = r := by rw [h]; rfl
  rw [List.getElem?_drop] at h1
  rw [List.drop_drop] at h2
  exact ⟨by simpa using h1, h2⟩
theorem drop_one {α : Type} {l : List α} {k : Nat} {x : α} (h : l.drop k = [x]) : l.length = k + 1 := by
  have h1 : (l.drop k).length = 1 := by rw [h]; rfl
  rw [List.length_drop] at h1; omega
theorem takeWhile_step {α : Type} {p : α → Bool} {x : α} : ∀ {l : List α} {k : Nat}, k ≤ (l.takeWhile p).length → l[k]? = some x → (p x = true → (l.takeWhile p)[k]? = some x ∧ k + 1 ≤ (l.takeWhile p).length) ∧ (p x = false → (l.takeWhile p).length = k)
  | [], k, _, h => by simp at h
  | y :: l, 0, _, h => by
    have e : y = x := by simpa using h
    subst e
    refine ⟨fun hp => ?_, fun hp => ?_⟩ <;> simp [hp]
  | y :: l, k + 1, hk, h => by
    cases hy : p y with
    | false => simp [hy] at hk
    | true =>
      simp only [List.takeWhile_cons, hy, if_true, List.length_cons] at hk ⊢
      have := takeWhile_step (p := p) (l := l) (k := k) (x := x) (by omega) (by simpa using h)
      refine ⟨fun hp => ?_, fun hp => ?_⟩
      · obtain ⟨a, b⟩ := this.1 hp
        exact ⟨by simpa using a, by omega⟩
      · have := this.2 hp; omega
end Go.Cur
/- The iterator cursor.spans of this program: it tells the parts of a text that line feeds part. Conditions: a text that a string can be. -/
namespace Go.Proofs
open Go.RowKit Go.Shelf Go.Cur

attribute [local go_sem] Oper.semAt_some

/-- The types of the cells that no round of this program writes: a string's box, the box of a yield. -/
def stillT (_ : Nat) (t : TypeId) : Bool := t == 9 || t == 133

def curSpanV (p : Nat × Nat) : Array Value := #[.int .i64 (p.1 : Int), .int .i64 (p.2 : Int)]
def spansV (s : ByteArray) : List (Array Value) := (spans s.data.toList).map curSpanV

theorem Try.spans_calls (s : ByteArray) (w : World) :
    Calls Try.prog 71 #[.string s] w fun e w' => e = .returned (.func (.func 84) #[] #[.pointer (some ⟨w.heap.size, 0, none⟩)]) ∧ w' = w.alloc (.cells #[.string s] 9) := by
  go_enter Try.func71, Try.ntmps71
  go_wp2
  go_ret
  exact ⟨rfl, rfl⟩

set_option maxRecDepth 100000 in
set_option maxHeartbeats 1000000 in
theorem Try.spans1_seq (Bs : Nat) (s : ByteArray) (w : World) (hs : s.size ≤ maxLen) (hB : Bs < w.heap.size) (hbox : Boxed w Bs 9 (.string s)) :
    Seq stillT Try.prog 84 #[.pointer (some ⟨Bs, 0, none⟩)] (spansV s) w := by
  intro l J Jx W hW hJ hJx hY h0
  unfold maxLen at hs
  have hbW : Boxed W Bs 9 (.string s) := (hW.block Bs hB).trans hbox
  have hBW : Bs < W.heap.size := hbW.lt
  have hcW := hbW.cell
  have hn := fun (wr : World) (pos : Nat) (ty : TypeId) hk h => Lib.run_next_any_at (P := Try.prog) wr W.heap.size s pos ty hk h
  have he := fun (wr : World) (pos : Nat) (ty : TypeId) hk h => Lib.run_next_end_at (P := Try.prog) wr W.heap.size s pos ty hk h
  refine (callsIn_wide (n := 0)).1 (callsIn_of_wp Try.func84 rfl trivial ?_ rfl)
  simp only [Try.ntmps84, List.size_toArray, List.length_cons, List.length_nil, Nat.reduceAdd, Nat.reduceSub, Array.replicate_succ, Array.replicate_zero, List.push_toArray, List.append_toArray, List.nil_append, List.cons_append]
  gi_wp2
  gi_loopw [3] (fun v wr => ∃ (pos a k : Nat), v = .int .i64 (a : Int) ∧ wr.heap[W.heap.size]? = some (.stringIter s pos) ∧ Boxed wr Bs 9 (.string s) ∧ pos ≤ s.size ∧ a ≤ pos ∧ (spans s.data.toList).drop k = spansFrom (s.data.toList.drop pos) pos a ∧ J k wr)
    (fun v wr => s.size - wr.iterPos W.heap.size)
  case atStart =>
    exact ⟨0, 0, 0, rfl, World.alloc_heap_new W _, hbW.alloc _, Nat.zero_le _, Nat.le_refl _, by simp [spans], hJ.alloc _ h0⟩
  case round =>
    obtain ⟨pos, a, k, rfl, hit, hbox1, hpos, ha, hdrop, hj⟩ := hrel
    have hcell := hbox1.cell
    by_cases hlt : pos < s.size
    · by_cases hb : s[pos]'hlt = 10
      · -- a line feed
        have hn' := fun ty => hn wr pos ty hit hlt
        rw [decode_feed s pos hlt hb] at hn'
        have hg := list_get s pos hlt
        rw [hb] at hg
        rw [spans_feed _ _ _ hg] at hdrop
        obtain ⟨hx, hdrop'⟩ := drop_step hdrop
        have hx' : (spansV s)[k]? = some (curSpanV (a, pos)) := by simp [spansV, hx]
        have hjt : J k (wr.iterAt W.heap.size s (pos + 1)) := hJ k wr _ (some W.heap.size) hj (grownBy_putObj' wr W.heap.size _) (fun r e => by cases e; exact ⟨Nat.le_refl _, _, hit, rfl⟩)
        have hit2 := Lib.iterAt_heap wr W.heap.size s pos (pos + 1) hit
        have hbox2 : Boxed (wr.iterAt W.heap.size s (pos + 1)) Bs 9 (.string s) := hbox1.kept (grownBy_putObj' wr W.heap.size _) (fun e => by cases e; omega)
        obtain ⟨fn, tmps, assign, body, hy, hR⟩ := hY k _ _ hx' hjt
        have Hx := Lib.hid hdrop'
        clear hn he hY hb hg hdrop hx hx' hdrop' hJx
        simp only [curSpanV] at hy
        gi_wp2
        refine ⟨rfl, hR.mono ?_⟩
        rintro e W3 ⟨hrf, (⟨rfl, hJ3⟩ | ⟨rfl, hJx3⟩)⟩
        · have hit3 := hrf.other _ _ (Nat.le_refl _) hit2 rfl
          have hbox3 := hrf.boxed hbox2 rfl
          gi_wp2
          go_roundw
          case rel => exact ⟨pos + 1, pos + 1, k + 1, by go_num, hit3, hbox3, by omega, by omega, Hx.out, hJ3⟩
          case measure => simp [World.iterPos, hit, hit3]; omega
        · gi_wp2
          refine bodyPost_ret (results_none rfl _ _ _) rfl ?_
          exact ⟨⟨_, rfl⟩, .inr hJx3⟩
      · -- another sign
        obtain ⟨h1, h2, h3, h4⟩ := decode_sign s pos hlt hb
        have hle := decode_le s pos
        have hn' := fun ty => hn wr pos ty hit hlt
        obtain ⟨r, hr⟩ : ∃ r, r = (Utf8.decode s pos).1 := ⟨_, rfl⟩
        obtain ⟨wd, hw⟩ : ∃ wd, wd = (Utf8.decode s pos).2 := ⟨_, rfl⟩
        rw [← hr] at h1 hle hn'
        rw [← hw] at h2 h3 h4 hn'
        clear hr hw
        have hne : (((r : Nat) : Int) != 10) = true := by rw [bne_iff_ne]; omega
        have hdrop' : (spans s.data.toList).drop k = spansFrom (s.data.toList.drop (pos + wd)) (pos + wd) a := by
          rw [hdrop]
          refine spans_sign _ _ _ _ (by simpa using h3) fun j h5 h6 => ?_
          have hj : j < s.size := by omega
          rw [list_get s j hj]
          have := h4 j h5 h6
          rw [get_of s j hj] at this
          intro e
          exact this (by injection e)
        have hjt : J k (wr.iterAt W.heap.size s (pos + wd)) := hJ k wr _ (some W.heap.size) hj (grownBy_putObj' wr W.heap.size _) (fun r e => by cases e; exact ⟨Nat.le_refl _, _, hit, rfl⟩)
        have hit2 := Lib.iterAt_heap wr W.heap.size s pos (pos + wd) hit
        have hbox2 : Boxed (wr.iterAt W.heap.size s (pos + wd)) Bs 9 (.string s) := hbox1.kept (grownBy_putObj' wr W.heap.size _) (fun e => by cases e; omega)
        have Hx := Lib.hid hdrop'
        clear hn he hY hb hdrop hdrop' hJx h4 h1
        gi_wp2
        go_roundw
        case rel => exact ⟨pos + wd, a, k, rfl, hit2, hbox2, h3, by omega, Hx.out, hjt⟩
        case measure => simp [World.iterPos, hit, hit2]; omega
    · -- the end
      have hpe : pos = s.size := by omega
      have he' := fun ty => he wr pos ty hit hlt
      have hl : s.size = s.data.toList.length := by simp
      rw [hpe, hl, spans_end, ← hl] at hdrop
      obtain ⟨hx, _⟩ := drop_step hdrop
      have hlen := drop_one hdrop
      have hx' : (spansV s)[k]? = some (curSpanV (a, s.size)) := by simp [spansV, hx]
      obtain ⟨fn, tmps, assign, body, hy, hR⟩ := hY k _ _ hx' hj
      have hl0 : (spansV s).length = k + 1 := by simp [spansV, hlen]
      have Hl := Lib.hid hl0
      clear hn he hY hdrop hx hx' hlen hl hl0 hJx hpe
      simp only [curSpanV] at hy
      gi_wp2
      refine ⟨rfl, hR.mono ?_⟩
      rintro e W3 ⟨hrf, (⟨rfl, hJ3⟩ | ⟨rfl, hJx3⟩)⟩
      · gi_wp2
        go_end0
        rw [Hl.out]
        exact ⟨⟨_, rfl⟩, .inl hJ3⟩
      · gi_wp2
        go_end0
        exact ⟨⟨_, rfl⟩, .inr hJx3⟩
#print axioms Try.spans1_seq
end Go.Proofs
/- cursor.Where and cursor.Place of this program, in plain words over the parts of a text. Conditions: a text that a string can be. -/
namespace Go.Cur
/-- Where: the line and the column of a place, and the error; n lines lie ahead. -/
def whereL : List (Nat × Nat) → Int → Nat → Int × Int × Int
  | [], _, _ => (0, 0, 10)
  | (a, b) :: r, i, n => if i ≤ (b : Int) then ((n : Int) + 1, i - a + 1, 0) else whereL r i (n + 1)
theorem whereL_drop {sp : List (Nat × Nat)} {k a b : Nat} (h : sp[k]? = some (a, b)) (i : Int) : whereL (sp.drop k) i k = if i ≤ (b : Int) then ((k : Int) + 1, i - a + 1, 0) else whereL (sp.drop (k + 1)) i (k + 1) := by
  obtain ⟨hk, he⟩ := List.getElem?_eq_some_iff.1 h
  rw [List.drop_eq_getElem_cons hk, he]; rfl
theorem whereL_end (sp : List (Nat × Nat)) (i : Int) : whereL (sp.drop sp.length) i sp.length = (0, 0, 10) := by simp [whereL]
/-- Place: the place of a line and a column, and the error; n lines lie ahead. -/
def placeL : List (Nat × Nat) → Int → Int → Nat → Int × Int
  | [], _, _, _ => (0, 10)
  | (a, b) :: r, i, c, n => if (n : Int) + 1 = i ∧ c - 1 ≤ (b : Int) - a then ((a : Int) + c - 1, 0) else placeL r i c (n + 1)
theorem placeL_drop {sp : List (Nat × Nat)} {k a b : Nat} (h : sp[k]? = some (a, b)) (i c : Int) : placeL (sp.drop k) i c k = if (k : Int) + 1 = i ∧ c - 1 ≤ (b : Int) - a then ((a : Int) + c - 1, 0) else placeL (sp.drop (k + 1)) i c (k + 1) := by
  obtain ⟨hk, he⟩ := List.getElem?_eq_some_iff.1 h
  rw [List.drop_eq_getElem_cons hk, he]; rfl
theorem placeL_end (sp : List (Nat × Nat)) (i c : Int) : placeL (sp.drop sp.length) i c sp.length = (0, 10) := by simp [placeL]
end Go.Cur
namespace Go.Proofs
open Go.RowKit Go.Shelf Go.Cur
attribute [local go_sem] Oper.semAt_some

theorem spansV_get {s : ByteArray} {k : Nat} {x : Array Value} (h : (spansV s)[k]? = some x) : ∃ a b, x = #[.int .i64 (a : Nat), .int .i64 (b : Nat)] ∧ (spans s.data.toList)[k]? = some (a, b) := by
  simp only [spansV, List.getElem?_map, Option.map_eq_some_iff] at h
  obtain ⟨⟨a, b⟩, hp, rfl⟩ := h
  exact ⟨a, b, rfl, hp⟩

theorem where_close {w W : World} {n B : Nat} {u1 u2 u3 u4 : Value} (c1 : Boxed W (n + 1) 3 u1) (c2 : Boxed W (n + 1 + 1) 3 u2) (c3 : Boxed W (n + 1 + 1 + 1) 39 u3) (c4 : Boxed W (n + 1 + 1 + 1 + 1) 3 u4) (hB1 : Below n w W) (v1 v2 v3 v4 : Value) :
    RF stillT B W ((((W.setCell ⟨n + 1 + 1 + 1 + 1, 0, none⟩ v4).setCell ⟨n + 1, 0, none⟩ v1).setCell ⟨n + 1 + 1, 0, none⟩ v2).setCell ⟨n + 1 + 1 + 1, 0, none⟩ v3).drew ∧
    Boxed ((((W.setCell ⟨n + 1 + 1 + 1 + 1, 0, none⟩ v4).setCell ⟨n + 1, 0, none⟩ v1).setCell ⟨n + 1 + 1, 0, none⟩ v2).setCell ⟨n + 1 + 1 + 1, 0, none⟩ v3).drew (n + 1) 3 v1 ∧
    Boxed ((((W.setCell ⟨n + 1 + 1 + 1 + 1, 0, none⟩ v4).setCell ⟨n + 1, 0, none⟩ v1).setCell ⟨n + 1 + 1, 0, none⟩ v2).setCell ⟨n + 1 + 1 + 1, 0, none⟩ v3).drew (n + 1 + 1) 3 v2 ∧
    Boxed ((((W.setCell ⟨n + 1 + 1 + 1 + 1, 0, none⟩ v4).setCell ⟨n + 1, 0, none⟩ v1).setCell ⟨n + 1 + 1, 0, none⟩ v2).setCell ⟨n + 1 + 1 + 1, 0, none⟩ v3).drew (n + 1 + 1 + 1) 39 v3 ∧
    Below n w ((((W.setCell ⟨n + 1 + 1 + 1 + 1, 0, none⟩ v4).setCell ⟨n + 1, 0, none⟩ v1).setCell ⟨n + 1 + 1, 0, none⟩ v2).setCell ⟨n + 1 + 1 + 1, 0, none⟩ v3).drew := by
  have e1 := c1.other (B' := n + 1 + 1 + 1 + 1) (by omega) v4
  have e2 := (c2.other (B' := n + 1 + 1 + 1 + 1) (by omega) v4).other (B' := n + 1) (by omega) v1
  have e3 := ((c3.other (B' := n + 1 + 1 + 1 + 1) (by omega) v4).other (B' := n + 1) (by omega) v1).other (B' := n + 1 + 1) (by omega) v2
  refine ⟨(((((RF.refl _).set c4 rfl v4).set e1 rfl v1).set e2 rfl v2).set e3 rfl v3).drew, ?_, ?_, ?_, ?_⟩
  · exact ((e1.set v1).other (by omega) v2).other (by omega) v3
  · exact (e2.set v2).other (by omega) v3
  · exact e3.set v3
  · exact ((((hB1.setCell (p := ⟨n + 1 + 1 + 1 + 1, 0, none⟩) (by simp; omega) v4).setCell (p := ⟨n + 1, 0, none⟩) (by simp) v1).setCell (p := ⟨n + 1 + 1, 0, none⟩) (by simp; omega) v2).setCell (p := ⟨n + 1 + 1 + 1, 0, none⟩) (by simp; omega) v3).drew


end Go.Proofs
/- cursor.lineOf of this program: the line of a part of a text. Conditions: a text of at most a million bytes. -/
namespace Go.Cur
/-- The line of a part: its first byte, the place behind its last one, where the next line begins. -/
def lineAt (l : List UInt8) (p : Nat × Nat) : Nat × Nat × Nat :=
  if p.2 = l.length then (p.1, p.2, p.2) else (p.1, if p.1 < p.2 ∧ l[p.2 - 1]? = some 13 then p.2 - 1 else p.2, p.2 + 1)
def lines (l : List UInt8) : List (Nat × Nat × Nat) := ((spans l).takeWhile fun p => p.1 != l.length).map (lineAt l)
end Go.Cur
namespace Go.Proofs
open Go.RowKit Go.Shelf Go.Cur
attribute [local go_sem] Oper.semAt_some

def lineV (p : Nat × Nat × Nat) : Value := .agg #[.int .i64 (p.1 : Int), .int .i64 (p.2.1 : Int), .int .i64 (p.2.2 : Int)]
def linesV (s : ByteArray) : List (Array Value) := (lines s.data.toList).map fun p => #[lineV p]

set_option maxHeartbeats 400000 in
theorem Try.lineOf_calls (s : ByteArray) (a b : Nat) (w : World) (hs : s.size ≤ 1000000) (hab : a ≤ b) (hb : b ≤ s.size) :
    Calls Try.prog 72 #[.string s, .int .i64 (a : Int), .int .i64 (b : Int)] w fun e w' => e = .returned (lineV (lineAt s.data.toList (a, b))) ∧ Below w.heap.size w w' := by
  by_cases he : b = s.size
  · have hbe : (((b : Nat) : Int) == (s.size : Int)) = true := by rw [beq_iff_eq]; omega
    have hl : lineAt s.data.toList (a, b) = (a, b, b) := by simp [lineAt, he]
    have Hl := Lib.hid hl
    clear hl he
    go_enter Try.func72, Try.ntmps72
    go_wp2
    rw [Hl.out]
    exact bodyPost_ret (v := .agg #[.int .i64 a, .int .i64 b, .int .i64 b]) (by simp [results, Try.results72, go_sem]) rfl ⟨rfl, (Below.refl _ w).alloc (Nat.le_refl _) _⟩
  · have hbe : (((b : Nat) : Int) == (s.size : Int)) = false := by rw [beq_eq_false_iff_ne]; omega
    by_cases hlt : a < b
    · have hgt : decide ((a : Int) < (b : Int)) = true := by simpa using hlt
      have hb1 : 0 ≤ (b : Int) - 1 := by omega
      have hb2 : ((b : Int) - 1).toNat = b - 1 := by omega
      have hb3 : b - 1 < s.size := by omega
      by_cases h13 : s[b - 1]'hb3 = 13
      · have h13' : (((s[b - 1]'hb3).toNat : Int) == 13) = true := by rw [h13]; rfl
        have hl : lineAt s.data.toList (a, b) = (a, b - 1, b + 1) := by
          simp only [lineAt]; rw [if_neg (by simpa using he), list_get s (b - 1) hb3, h13, if_pos ⟨hlt, rfl⟩]
        have Hl := Lib.hid hl
        clear hl he h13
        go_enter Try.func72, Try.ntmps72
        go_wp2
        rw [Hl.out]
        have e3 : ((b - 1 : Nat) : Int) = (b : Int) - 1 := by omega
        refine bodyPost_ret (v := .agg #[.int .i64 a, .int .i64 ((b : Int) - 1), .int .i64 ((b : Int) + 1)]) (by simp [results, Try.results72, go_sem]) rfl ⟨?_, ((Below.refl _ w).alloc (Nat.le_refl _) _).alloc (by simp) _⟩
        simp [lineV, e3]
      · have h13' : (((s[b - 1]'hb3).toNat : Int) == 13) = false := by
          rw [beq_eq_false_iff_ne]
          intro e
          exact h13 (UInt8.toNat_inj.1 (by have e' : (s[b - 1]'hb3).toNat = 13 := by omega
                                           exact e'))
        have hl : lineAt s.data.toList (a, b) = (a, b, b + 1) := by
          simp only [lineAt]; rw [if_neg (by simpa using he), list_get s (b - 1) hb3, if_neg (fun h => h13 (Option.some.inj h.2))]
        have Hl := Lib.hid hl
        clear hl he h13
        go_enter Try.func72, Try.ntmps72
        go_wp2
        rw [Hl.out]
        refine bodyPost_ret (v := .agg #[.int .i64 a, .int .i64 b, .int .i64 ((b : Int) + 1)]) (by simp [results, Try.results72, go_sem]) rfl ⟨?_, ((Below.refl _ w).alloc (Nat.le_refl _) _).alloc (by simp) _⟩
        simp [lineV]
    · have hgt : decide ((a : Int) < (b : Int)) = false := by simpa using hlt
      have hl : lineAt s.data.toList (a, b) = (a, b, b + 1) := by
        simp only [lineAt]; rw [if_neg (by simpa using he), if_neg (fun h => hlt h.1)]
      have Hl := Lib.hid hl
      clear hl he
      go_enter Try.func72, Try.ntmps72
      go_wp2
      rw [Hl.out]
      refine bodyPost_ret (v := .agg #[.int .i64 a, .int .i64 b, .int .i64 ((b : Int) + 1)]) (by simp [results, Try.results72, go_sem]) rfl ⟨?_, ((Below.refl _ w).alloc (Nat.le_refl _) _).alloc (by simp) _⟩
      simp [lineV]

#print axioms Try.lineOf_calls
end Go.Proofs
/- A region that draws its order, within a round of a loop over a function: it goes as it goes outside one, if it holds no defer statement. -/
namespace Go
open Go.RowKit
variable {F : Fence} {n : Nat} {P : Program} {ops : Array Oper} {Q : Exit → Act → World → Prop} {md : Region.Mode}

theorem Oper.wpIn_into {o : Oper} {a : Act} {w : World} {K : Act → World → Prop} (l : Nat) (hro : F.round = none) (hnd : ∀ c, o.op ≠ .defer c) (h : o.wpIn F n P a w K Q) : o.wpIn (F.inRound l) n P a w K Q := by
  unfold Oper.wpIn at h ⊢
  refine ⟨h.1, ?_⟩
  have h2 := h.2
  rw [hro, Oper.semAt_none] at h2
  rw [Fence.inRound_round, Oper.semAt_some l _ _ hnd]
  revert h2
  generalize (execOp a.eval o).run P w = r
  intro h2
  cases r with
  | ok v w' => cases v <;> exact h2
  | halt c w' => cases c <;> exact h2

theorem wpAnyIn_into (l : Nat) (hro : F.round = none) (hnd : ∀ (i : Nat) (o : Oper), ops[i]? = some o → ∀ c, o.op ≠ .defer c) :
    ∀ (fuel : Nat) (listed : Array Bool) (a : Act) (w : World), wpAnyIn F n P md ops Q fuel listed a w → wpAnyIn (F.inRound l) n P md ops Q fuel listed a w
  | 0, _, _, _, h => h
  | fuel + 1, listed, a, w, h => by
    refine ⟨h.1, fun i hi => ?_⟩
    have h1 := wpOpIn_mono (K' := wpAnyIn (F.inRound l) n P md ops Q fuel (listed.setIfInBounds i true)) (fun a w => wpAnyIn_into l hro hnd fuel _ a w) (h.2 i hi)
    unfold wpOpIn at h1 ⊢
    cases ho : ops[i]? with
    | none => simpa [ho] using h1
    | some o =>
      simp only [ho] at h1 ⊢
      split
      · rename_i hw
        rw [if_pos hw] at h1
        exact Oper.wpIn_into l hro (hnd i o ho) h1
      · rename_i hw
        rw [if_neg hw] at h1
        exact h1

def Oper.noDefer (o : Oper) : Bool := match o.op with | .defer _ => false | _ => true
theorem noDefer_spec (h : ops.all Oper.noDefer = true) (i : Nat) (o : Oper) (ho : ops[i]? = some o) : ∀ c, o.op ≠ .defer c := by
  intro c e
  obtain ⟨hi, rfl⟩ := Array.getElem?_eq_some_iff.1 ho
  have := (Array.all_eq_true.1 h) i hi
  simp [Oper.noDefer, e] at this

theorem wpIn_region_round {id : Nat} {a : Act} {w : World} {l : Nat} (hro : F.round = none) (hm : P.follows .mixedOrders = true) (hnd : ops.all Oper.noDefer = true)
    (h : wpAnyIn F n P .any ops Q ops.size (Array.replicate ops.size false) a w.drew) : (Code.region id ops true).wpIn (F.inRound l) n P Q a w :=
  wpIn_region_any hm (wpAnyIn_into l hro (noDefer_spec hnd) _ _ _ _ h)

theorem wpIn_region_quiet_round {id : Nat} {a : Act} {w : World} {ol : List Oper} {l : Nat} (hro : F.round = none) (hm : P.follows .mixedOrders = true) (hnd : ol.toArray.all Oper.noDefer = true) (hB : Region.lexB .any ol.toArray = true)
    (h : wpQuietIn F n P ol.toArray (fun w' => ∃ m, w' = w.drewN m) (fun a' => ∀ w', (∃ m, w' = w.drewN m) → Q .normal a' w') ol a) : (Code.region id ol.toArray true).wpIn (F.inRound l) n P Q a w := by
  refine wpIn_region_round hro hm hnd ?_
  simp only [Region.lexB, Bool.and_eq_true] at hB
  refine wpAnyIn_of_quiet (C := fun w' => ∃ m, w' = w.drewN m) (Q := fun a' => ∀ w', (∃ m, w' = w.drewN m) → Q .normal a' w') hro (fun _ w' hw' h => h w' hw') _ _ _ _ ⟨1, rfl⟩ ?_
  have := wpAnyQIn_lex (F := F) (n := n) (md := .any) hB.1 ol 0 (Array.replicate ol.toArray.size false) a (by simp) (by simpa using hB.2) h
  simpa using this
#print axioms wpIn_region_quiet_round
end Go
/- The iterator cursor.lines of this program: it tells the lines of a text. Conditions: a text of at most a million bytes. -/
namespace Go.Proofs
open Go.RowKit Go.Shelf Go.Cur
attribute [local go_sem] Oper.semAt_some

theorem Try.lines_calls (s : ByteArray) (w : World) :
    Calls Try.prog 46 #[.string s] w fun e w' => e = .returned (.func (.func 70) #[] #[.pointer (some ⟨w.heap.size, 0, none⟩)]) ∧ w' = w.alloc (.cells #[.string s] 9) := by
  go_enter Try.func46, Try.ntmps46
  go_wp2
  go_ret
  exact ⟨rfl, rfl⟩

set_option maxRecDepth 100000 in
set_option maxHeartbeats 1000000 in
theorem Try.lines1_seq (Bs : Nat) (s : ByteArray) (w : World) (hs : s.size ≤ 1000000) (hB : Bs < w.heap.size) (hbox : Boxed w Bs 9 (.string s)) :
    Seq stillT Try.prog 70 #[.pointer (some ⟨Bs, 0, none⟩)] (linesV s) w := by
  intro l J Jx W hW hJ hJx hY h0
  have hbW : Boxed W Bs 9 (.string s) := (hW.block Bs hB).trans hbox
  have hBW : Bs < W.heap.size := hbW.lt
  have hcW := hbW.cell
  refine (callsIn_wide (n := 0)).1 (callsIn_of_wp_marks Try.func70 rfl trivial ?_ rfl)
  simp only [Try.ntmps70, List.size_toArray, List.length_cons, List.length_nil, Nat.reduceAdd, Nat.reduceSub, Array.replicate_succ, Array.replicate_zero, List.push_toArray, List.append_toArray, List.nil_append, List.cons_append]
  gi_wp2_with (refine ⟨trivial, rfl, ?_⟩; gi_at_call 71; refine (callsIn_wide.2 (Try.spans_calls _ _)).mono ?_; rintro e w' ⟨rfl, rfl⟩)
  obtain ⟨V, hV⟩ : ∃ V, V = (W.alloc (Obj.cells #[Value.func (Fn.yield l) #[] #[]] 133)).alloc (Obj.cells #[Value.string s] 9) := ⟨_, rfl⟩
  have hVs : V.heap.size = W.heap.size + 1 + 1 := by rw [hV]; simp
  have b0 : Boxed V W.heap.size 133 (.func (.yield l) #[] #[]) := by rw [hV]; exact (Boxed.new W 133 _).alloc _
  have b1 : Boxed V (W.heap.size + 1) 9 (.string s) := by rw [hV]; exact Boxed.at 9 _ (by simp)
  have b2 : Boxed V Bs 9 (.string s) := by rw [hV]; exact (hbW.alloc _).alloc _
  have j0 : J 0 V := by rw [hV]; exact hJ.alloc _ (hJ.alloc _ h0)
  rw [← hV]
  clear hV
  have hup : ∀ {X : World} {row : Option Nat}, (∀ r, row = some r → V.heap.size ≤ r ∧ ∃ o : Obj, X.heap[r]? = some o ∧ o.isCells = false) → (∀ r, row = some r → W.heap.size ≤ r ∧ ∃ o : Obj, X.heap[r]? = some o ∧ o.isCells = false) :=
    fun hr r e => ⟨by have := (hr r e).1; omega, (hr r e).2⟩
  refine range_seq (gf := 84) (lb := #[.pointer (some ⟨W.heap.size + 1, 0, none⟩)]) rfl (enters_of Try.func84 (by kernel_rfl) rfl)
    (Try.spans1_seq _ s V (by unfold maxLen; omega) (by omega) b1) (Below.refl _ _) (fun k x h => by obtain ⟨a, b, rfl, _⟩ := spansV_get h; rfl)
    (fun k X => Boxed X W.heap.size 133 (.func (.yield l) #[] #[]) ∧ Boxed X Bs 9 (.string s) ∧ k ≤ (linesV s).length ∧ J k X)
    (fun c X => c = .ret ∧ (J (linesV s).length X ∨ Jx X))
    (fun k X Y row h hg hr => ⟨h.1.own hg hr, h.2.1.own hg hr, h.2.2.1, hJ k X Y row h.2.2.2 hg (hup hr)⟩)
    (fun c _ X Y row h hg hr => ⟨h.1, h.2.imp (fun h => hJ _ X Y row h hg (hup hr)) (fun h => hJx () X Y row h hg (hup hr))⟩)
    ⟨b0, b2, Nat.zero_le _, j0⟩
    (fun x a' _ => a' = { tmps := #[.func (.yield l) #[] #[], .pointer (some ⟨Bs, 0, none⟩), .pointer (some ⟨W.heap.size, 0, none⟩), x[0]!, x[1]!, .string s, .func (.func 84) #[] #[.pointer (some ⟨W.heap.size + 1, 0, none⟩)], x[0]!, x[1]!, undef, undef, undef, undef, undef, undef, undef, undef, undef, undef, undef, undef, undef], defers := [] })
    (fun _ _ _ _ _ _ h _ _ => h) ?assign ?body ?done ?stop
  case assign =>
    intro l k x W K hx hi hK
    obtain ⟨a, b, rfl, hx⟩ := spansV_get hx
    gi_wp2
    exact hK _ _ (RF.refl _) hi rfl
  case body =>
    rintro l' k x a' X hx0 ⟨c0, c1, hk, hj⟩ rfl
    obtain ⟨a, b, rfl, hx⟩ := spansV_get hx0
    clear hx0
    have hc0 := c0.cell
    have hc1 := c1.cell
    obtain ⟨hab, hbl, hkl⟩ := spans_get hx
    simp only [Array.length_toList, show s.data.size = s.size from rfl] at hbl hkl
    have hmx : Try.prog.follows .mixedOrders = true := by kernel_rfl
    have hfn : ∀ f, Fence.wide.fn f := fun _ => trivial
    have hdp : Fence.wide.depth = none := rfl
    have hll : (linesV s).length = ((spans s.data.toList).takeWhile fun p => p.1 != s.data.toList.length).length := by simp [linesV, lines]
    have hst := takeWhile_step (p := fun p : Nat × Nat => p.1 != s.data.toList.length) (by rw [← hll]; exact hk) hx
    by_cases ha : a = s.size
    · have hae : (((a : Nat) : Int) == (s.size : Int)) = true := by rw [beq_iff_eq]; omega
      have hkk : (linesV s).length = k := by rw [hll]; exact hst.2 (by simp [ha])
      have Hk := Lib.hid hkk
      clear hst hll hkk hx ha hY
      simp only [List.getElem!_toArray, List.getElem!_cons_zero, List.getElem!_cons_succ]
      gi_wp2
      refine wpIn_region_quiet_round rfl hmx (by kernel_rfl) (by kernel_rfl) ?_
      repeat (gi_big_quiet_step (fail))
      refine wpQuietIn_nil ?_
      intro _ hw1
      obtain ⟨nq, hw2⟩ := hw1
      subst hw2
      gi_wp2
      rw [Hk.out]
      exact ⟨⟨Nat.le_refl _, fun _ _ _ h _ => h, fun _ _ _ _ _ h => h⟩, rfl, .inl (hJ k X _ none hj ⟨rfl, rfl, rfl, Nat.le_refl _, fun _ _ _ => rfl⟩ (fun r e => by cases e))⟩
    · have hae : (((a : Nat) : Int) == (s.size : Int)) = false := by rw [beq_eq_false_iff_ne]; omega
      obtain ⟨hst1, hst2⟩ := hst.1 (by simpa using ha)
      have hxl : (linesV s)[k]? = some #[lineV (lineAt s.data.toList (a, b))] := by simp only [linesV, lines, List.getElem?_map, hst1, Option.map_some]
      have hkk : k + 1 ≤ (linesV s).length := by rw [hll]; exact hst2
      have hY1 : ∀ w1, Below X.heap.size X w1 → ∃ fn tmps assign body, (Instr.yield l #[lineV (lineAt s.data.toList (a, b))]).run Try.prog w1 = .ok (.round l fn tmps assign body) w1 ∧
          RoundIn (Fence.wide.inRound l') 0 Try.prog l fn tmps assign body w1 fun e W' => ∃ bb, e = .returned (.bool bb) ∧ RF stillT W.heap.size w1 W' ∧ ((bb = true ∧ J (k + 1) W') ∨ (bb = false ∧ Jx W')) := by
        intro w1 hb1
        obtain ⟨fn, tmps, assign, body, hy, hR⟩ := hY k _ w1 hxl (hJ.below hj hb1 (Nat.le_refl _))
        refine ⟨fn, tmps, assign, body, hy, (hR.mono ?_).into l'⟩
        rintro e W' ⟨h1, ⟨rfl, h2⟩ | ⟨rfl, h2⟩⟩
        · exact ⟨true, rfl, h1, .inl ⟨rfl, h2⟩⟩
        · exact ⟨false, rfl, h1, .inr ⟨rfl, h2⟩⟩
      have HY := Lib.hid hY1
      have hlt0 : W.heap.size < X.heap.size := c0.lt
      have hltB : Bs < X.heap.size := c1.lt
      obtain ⟨lv, hlv⟩ : ∃ lv, lv = lineV (lineAt s.data.toList (a, b)) := ⟨_, rfl⟩
      clear hst hll hx ha hY hY1 hst1 hst2 hxl
      have hlo := fun w1 : World => Try.lineOf_calls s a b w1 hs hab hbl
      rw [← hlv] at HY hlo
      have HL := Lib.hid hlo
      clear hlv hlo
      simp only [List.getElem!_toArray, List.getElem!_cons_zero, List.getElem!_cons_succ]
      gi_wp2
      refine wpIn_region_round rfl hmx (by kernel_rfl) ?_
      refine wpAnyIn_take (i := 0) (v := ?_) rfl rfl (by kernel_rfl) (by kernel_rfl) (by kernel_rfl) (fun _ _ _ h => h) ⟨Or.inl ⟨by rfl, ?_⟩, fun _ => rfl⟩ ?_
      rotate_left
      · (intro w0; go_simp; try with_reducible rfl)
      refine wpAnyIn_ready (rs := [1]) (by kernel_rfl) (by simp) (AllReadyIn.cons rfl (fun K hK => ?_) AllReadyIn.nil); go_simp; refine hK _ _ ?_; clear hK K
      refine wpAnyIn_ready (rs := [2]) (by kernel_rfl) (by simp) (AllReadyIn.cons rfl (fun K hK => ?_) AllReadyIn.nil); go_simp; refine hK _ _ ?_; clear hK K
      refine wpAnyIn_ready (rs := [3]) (by kernel_rfl) (by simp) (AllReadyIn.cons rfl (fun K hK => ?_) AllReadyIn.nil); go_simp; refine hK _ _ ?_; clear hK K
      refine wpAnyIn_ready (rs := [4]) (by kernel_rfl) (by simp) (AllReadyIn.cons rfl (fun K hK => ?_) AllReadyIn.nil); go_simp; refine hK _ _ ?_; clear hK K
      refine wpAnyIn_take (i := 7) (v := ?_) rfl rfl (by kernel_rfl) (by kernel_rfl) (by kernel_rfl) (fun _ _ _ h => h) ⟨Or.inl ⟨by rfl, ?_⟩, fun _ => rfl⟩ ?_
      rotate_left
      · (intro w0; go_simp; try with_reducible rfl)
      refine wpAnyIn_take (i := 8) (v := ?_) rfl rfl (by kernel_rfl) (by kernel_rfl) (by kernel_rfl) (fun _ _ _ h => h) ⟨Or.inl ⟨by rfl, ?_⟩, fun _ => rfl⟩ ?_
      rotate_left
      · (intro w0; go_simp; try with_reducible rfl)
      refine wpAnyIn_ready (rs := [5, 6]) (by kernel_rfl) (by simp) (AllReadyIn.cons rfl (fun K hK => ?_) (AllReadyIn.cons rfl (fun K hK => ?_) AllReadyIn.nil))
      · go_simp; refine hK _ _ ?_; clear hK K
        refine wpAnyIn_ready (rs := [6]) (by kernel_rfl) (by simp) (AllReadyIn.cons rfl (fun K hK => ?_) AllReadyIn.nil); go_simp; refine hK _ _ ?_; clear hK K
        refine wpAnyIn_ready (rs := [9]) (by kernel_rfl) (by simp) (AllReadyIn.cons rfl (fun K hK => ?_) AllReadyIn.nil); go_simp; refine (callsIn_wide.2 (HL.out _)).mono ?_; rintro e w1 ⟨rfl, hb1⟩; refine hK _ _ ?_; clear hK K
        have hb2 : Below X.heap.size X w1 := (Below.refl _ _).drew.trans hb1
        obtain ⟨fn, tmps, assign, body, hy, hR⟩ := HY.out w1 hb2
        refine wpAnyIn_ready (rs := [10]) (by kernel_rfl) (by simp) (AllReadyIn.cons rfl (fun K hK => ?_) AllReadyIn.nil); go_simp; refine hR.mono ?_; rintro e w2 ⟨bb, rfl, hrf, hor⟩; refine hK _ _ ?_; clear hK K
        refine wpAnyIn_ready (rs := [11]) (by kernel_rfl) (by simp) (AllReadyIn.cons rfl (fun K hK => ?_) AllReadyIn.nil); go_simp; refine hK _ _ ?_; clear hK K
        refine wpAnyIn_ready (rs := [12]) (by kernel_rfl) (by simp) (AllReadyIn.cons rfl (fun K hK => ?_) AllReadyIn.nil); go_simp; refine hK _ _ ?_; clear hK K
        refine wpAnyIn_done (by kernel_rfl) ?_ _
        have hrf2 : RF stillT V.heap.size X w2 := ((RF.refl X).below hb2 (Nat.le_refl _)).trans (hrf.mono (by omega))
        rcases hor with ⟨rfl, h2⟩ | ⟨rfl, h2⟩
        · gi_wp2
          exact ⟨hrf2, hrf2.boxed c0 rfl, hrf2.boxed c1 rfl, hkk, h2⟩
        · gi_wp2
          exact ⟨hrf2, rfl, .inr h2⟩
      · go_simp; refine hK _ _ ?_; clear hK K
        refine wpAnyIn_ready (rs := [5, 9]) (by kernel_rfl) (by simp) (AllReadyIn.cons rfl (fun K hK => ?_) (AllReadyIn.cons rfl (fun K hK => ?_) AllReadyIn.nil))
        · go_simp; refine hK _ _ ?_; clear hK K
          refine wpAnyIn_ready (rs := [9]) (by kernel_rfl) (by simp) (AllReadyIn.cons rfl (fun K hK => ?_) AllReadyIn.nil); go_simp; refine (callsIn_wide.2 (HL.out _)).mono ?_; rintro e w1 ⟨rfl, hb1⟩; refine hK _ _ ?_; clear hK K
          have hb2 : Below X.heap.size X w1 := (Below.refl _ _).drew.trans hb1
          obtain ⟨fn, tmps, assign, body, hy, hR⟩ := HY.out w1 hb2
          refine wpAnyIn_ready (rs := [10]) (by kernel_rfl) (by simp) (AllReadyIn.cons rfl (fun K hK => ?_) AllReadyIn.nil); go_simp; refine hR.mono ?_; rintro e w2 ⟨bb, rfl, hrf, hor⟩; refine hK _ _ ?_; clear hK K
          refine wpAnyIn_ready (rs := [11]) (by kernel_rfl) (by simp) (AllReadyIn.cons rfl (fun K hK => ?_) AllReadyIn.nil); go_simp; refine hK _ _ ?_; clear hK K
          refine wpAnyIn_ready (rs := [12]) (by kernel_rfl) (by simp) (AllReadyIn.cons rfl (fun K hK => ?_) AllReadyIn.nil); go_simp; refine hK _ _ ?_; clear hK K
          refine wpAnyIn_done (by kernel_rfl) ?_ _
          have hrf2 : RF stillT V.heap.size X w2 := ((RF.refl X).below hb2 (Nat.le_refl _)).trans (hrf.mono (by omega))
          rcases hor with ⟨rfl, h2⟩ | ⟨rfl, h2⟩
          · gi_wp2
            exact ⟨hrf2, hrf2.boxed c0 rfl, hrf2.boxed c1 rfl, hkk, h2⟩
          · gi_wp2
            exact ⟨hrf2, rfl, .inr h2⟩
        · go_simp; refine (callsIn_wide.2 (HL.out _)).mono ?_; rintro e w1 ⟨rfl, hb1⟩; refine hK _ _ ?_; clear hK K
          have hc0' : w1.cell? ⟨W.heap.size, 0, none⟩ = some (.func (.yield l) #[] #[]) := (hb1.cell (p := ⟨W.heap.size, 0, none⟩) hlt0).trans hc0
          refine wpAnyIn_ready (rs := [5]) (by kernel_rfl) (by simp) (AllReadyIn.cons rfl (fun K hK => ?_) AllReadyIn.nil); go_simp; refine hK _ _ ?_; clear hK K
          have hb2 : Below X.heap.size X w1 := (Below.refl _ _).drew.trans hb1
          obtain ⟨fn, tmps, assign, body, hy, hR⟩ := HY.out w1 hb2
          refine wpAnyIn_ready (rs := [10]) (by kernel_rfl) (by simp) (AllReadyIn.cons rfl (fun K hK => ?_) AllReadyIn.nil); go_simp; refine hR.mono ?_; rintro e w2 ⟨bb, rfl, hrf, hor⟩; refine hK _ _ ?_; clear hK K
          refine wpAnyIn_ready (rs := [11]) (by kernel_rfl) (by simp) (AllReadyIn.cons rfl (fun K hK => ?_) AllReadyIn.nil); go_simp; refine hK _ _ ?_; clear hK K
          refine wpAnyIn_ready (rs := [12]) (by kernel_rfl) (by simp) (AllReadyIn.cons rfl (fun K hK => ?_) AllReadyIn.nil); go_simp; refine hK _ _ ?_; clear hK K
          refine wpAnyIn_done (by kernel_rfl) ?_ _
          have hrf2 : RF stillT V.heap.size X w2 := ((RF.refl X).below hb2 (Nat.le_refl _)).trans (hrf.mono (by omega))
          rcases hor with ⟨rfl, h2⟩ | ⟨rfl, h2⟩
          · gi_wp2
            exact ⟨hrf2, hrf2.boxed c0 rfl, hrf2.boxed c1 rfl, hkk, h2⟩
          · gi_wp2
            exact ⟨hrf2, rfl, .inr h2⟩
  case done =>
    rintro D X hD ⟨c0, c1, hk, hj⟩ hK
    gi_wp2
    refine ⟨by simp, .inl ⟨_, _, rfl, run_takeDeferred hK, ?_⟩⟩
    refine ⟨_, results_none rfl _ _ _, ⟨_, rfl⟩, .inl ?_⟩
    have he : (spansV s).length = (linesV s).length := by
      have h1 : (linesV s).length ≤ (spansV s).length := by simp only [linesV, lines, spansV, List.length_map]; exact (List.takeWhile_sublist _).length_le
      omega
    rw [← he]
    exact hJ.putObj _ hj (by omega) hK rfl
  case stop =>
    rintro D r X hD ⟨rfl, hj⟩ hK
    gi_wp2
    refine ⟨by simp, .inl ⟨_, _, rfl, run_takeDeferred hK, ?_⟩⟩
    refine ⟨_, results_none rfl _ _ _, ⟨_, rfl⟩, ?_⟩
    exact hj.imp (fun h => hJ.putObj _ h (by omega) hK rfl) (fun h => hJx.putObj (s := ()) _ h (by omega) hK rfl)
#print axioms Try.lines1_seq
end Go.Proofs
/- slices.Collect and slices.AppendSeq as this program calls them, over an iterator of lines; cursor.Lines. Conditions: a text of at most a million bytes. -/
namespace Go
open Go.RowKit
theorem RF.appended {T : Nat → TypeId → Bool} {W w1 : World} {n₀ B B0 : Nat} {t e : TypeId} {size : Nat} {v v' : Value} {k : Nat} {xs : List Value} {tmp : Obj}
    (hrow : W.ownsRow n₀ e size v k xs) (ht : T B t = false) (he : ∀ j, T j e = false) (hgrow : (W.alloc tmp).grownBy w1 v.ownBlock) (hv1 : Boxed w1 B t v) : RF T B0 W (w1.setCell ⟨B, 0, none⟩ v') := by
  refine RF.set (RF.grown ((RF.refl W).alloc tmp) hgrow fun j ej o ho => ?_) hv1 ht v'
  rcases (hrow.alloc tmp).2 with ⟨rfl, _⟩ | ⟨g, cap, cur, rfl, _, hgb, _⟩
  · simp [Value.ownBlock] at ej
  · obtain rfl : g = j := by simpa [Value.ownBlock] using ej
    rw [hgb] at ho; cases ho; exact ⟨_, _, _, rfl, he _⟩
end Go
namespace Go.Proofs
open Go.RowKit Go.Shelf Go.Cur
attribute [local go_sem] Oper.semAt_some

def lineCells (ps : List (Nat × Nat × Nat)) : List Value := ps.flatMap fun p => [.int .i64 (p.1 : Int), .int .i64 (p.2.1 : Int), .int .i64 (p.2.2 : Int)]
theorem lineCells_snoc (ps : List (Nat × Nat × Nat)) (a b c : Nat) : lineCells (ps ++ [(a, b, c)]) = lineCells ps ++ [.int .i64 (a : Int), .int .i64 (b : Int), .int .i64 (c : Int)] := by simp [lineCells]
theorem take_get {α : Type} {l : List α} {k : Nat} {x : α} (h : l[k]? = some x) : l.take (k + 1) = l.take k ++ [x] := by
  obtain ⟨hk, rfl⟩ := List.getElem?_eq_some_iff.1 h
  exact List.take_succ_eq_append_getElem hk

theorem map_get {α β : Type} {f : α → β} {l : List α} {k : Nat} {x : β} (h : (l.map f)[k]? = some x) : ∃ p, l[k]? = some p ∧ x = f p := by
  rw [List.getElem?_map, Option.map_eq_some_iff] at h
  obtain ⟨p, h1, h2⟩ := h
  exact ⟨p, h1, h2.symm⟩
theorem curcells_new (W : World) (c : Array Value) (t : TypeId) : ∀ (j : Nat) (u : Value), c.toList[j]? = some u → (W.alloc (.cells c t)).cell? ((⟨W.heap.size, 0, none⟩ : Addr).add j) = some u := by
  intro j u h
  have e := World.alloc_heap_new W (.cells c t)
  have hb : ((⟨W.heap.size, 0, none⟩ : Addr).add j) = ⟨W.heap.size, j, none⟩ := by
    unfold Addr.add
    split
    · rename_i h0; rw [h0]
    · simp
  rw [hb]
  unfold World.cell?
  simp only [e]
  simpa using h

theorem Try.info71 : (Try.prog.info? 71).map (fun i => (i.zero, i.size, i.bytes)) = some (some (.agg #[.int .i64 0, .int .i64 0, .int .i64 0]), 3, 24) := by kernel_rfl


theorem enters27 : ∀ args w, (callFunc 70 args).run Try.prog w = .ok (.enter 70 args) w := enters_of Try.func70 (by kernel_rfl) rfl


theorem spans_len' (s : ByteArray) : (spans s.data.toList).length ≤ s.size + 1 := by
  have := spans_len s.data.toList 0 0
  simpa [spans] using this
theorem lines_len (s : ByteArray) : (lines s.data.toList).length ≤ s.size + 1 := by
  have h1 := spans_len' s
  have h2 : (lines s.data.toList).length ≤ (spans s.data.toList).length := by simp only [lines, List.length_map]; exact (List.takeWhile_sublist _).length_le
  omega

end Go.Proofs
/- cursor.Blank of this program at a part of a text. Conditions: the part lies in the text. -/
namespace Go.Cur
def blankL (l : List UInt8) : Bool := l.all fun c => c == 32 || c == 9
/-- The bytes from a up to b. -/
def cutL (l : List UInt8) (a b : Nat) : List UInt8 := l.extract a b
theorem blank_decode (s : ByteArray) (pos : Nat) (h : pos < s.size) :
    (((Utf8.decode s pos).1 = 32 ∨ (Utf8.decode s pos).1 = 9) → (s[pos]'h == 32 || s[pos]'h == 9) = true ∧ (Utf8.decode s pos).2 = 1) ∧
    (((Utf8.decode s pos).1 ≠ 32 ∧ (Utf8.decode s pos).1 ≠ 9) → (s[pos]'h == 32 || s[pos]'h == 9) = false) := by
  by_cases ha : (s[pos]'h).toNat < 128
  · rw [decode_ascii s pos h ha]
    constructor
    · rintro (e | e)
      · have : s[pos]'h = 32 := UInt8.toNat_inj.1 e
        simp [this]
      · have : s[pos]'h = 9 := UInt8.toNat_inj.1 e
        simp [this]
    · rintro ⟨e1, e2⟩
      have h1 : s[pos]'h ≠ 32 := fun e => e1 (by rw [e]; rfl)
      have h2 : s[pos]'h ≠ 9 := fun e => e2 (by rw [e]; rfl)
      simp [h1, h2]
  · have hh := decode_high s pos h (by omega)
    refine ⟨fun e => by omega, fun _ => ?_⟩
    have h1 : s[pos]'h ≠ 32 := fun e => ha (by rw [e]; decide)
    have h2 : s[pos]'h ≠ 9 := fun e => ha (by rw [e]; decide)
    simp [h1, h2]
theorem blankL_drop (l : List UInt8) (p : Nat) (c : UInt8) (h : l[p]? = some c) : blankL (l.drop p) = ((c == 32 || c == 9) && blankL (l.drop (p + 1))) := by
  obtain ⟨hp, rfl⟩ := List.getElem?_eq_some_iff.1 h
  rw [List.drop_eq_getElem_cons hp]; rfl
theorem extract_list (s : ByteArray) (a b : Nat) : (s.extract a b).data.toList = cutL s.data.toList a b := by
  rw [ByteArray.data_extract, Array.toList_extract]; rfl
end Go.Cur
namespace Go.Proofs
open Go.RowKit Go.Shelf Go.Cur

set_option maxHeartbeats 400000 in
theorem Try.curblank_calls (r : Int) (w : World) :
    Calls Try.prog 73 #[.int .i32 r] w fun e w' => e = .returned (.bool (r == 32 || r == 9)) ∧ w = w' := by
  by_cases h1 : r = 32
  · subst h1
    go_enter Try.func73, Try.ntmps73
    go_wp2
    go_ret
    exact ⟨rfl, rfl⟩
  · have h1' : (r == 32) = false := beq_eq_false_iff_ne.2 h1
    have e : (r == 32 || r == 9) = (r == 9) := by rw [h1', Bool.false_or]
    rw [e]
    clear e h1
    go_enter Try.func73, Try.ntmps73
    go_wp2
    go_ret
    exact ⟨rfl, rfl⟩

set_option maxRecDepth 100000 in
set_option maxHeartbeats 1000000 in
theorem Try.Blank_calls (s : ByteArray) (a b c : Nat) (w : World) (hab : a ≤ b) (hbl : b ≤ s.size) :
    Calls Try.prog 47 #[.string s, .agg #[.int .i64 (a : Nat), .int .i64 (b : Nat), .int .i64 (c : Nat)]] w fun e w' => e = .returned (.bool (blankL (cutL s.data.toList a b))) ∧ Below w.heap.size w w' := by
  have g1 : decide ((a : Int) < 0) = false := decide_eq_false (by omega)
  have g2 : decide ((b : Int) < (a : Int)) = false := decide_eq_false (by omega)
  have g3 : decide ((s.size : Int) < (b : Int)) = false := decide_eq_false (by omega)
  have g4 : decide (b < a) = false := decide_eq_false (by omega)
  have g5 : decide (s.size < b) = false := decide_eq_false (by omega)
  have hn := fun (wr : World) (pos : Nat) (ty : TypeId) hk h => Lib.run_next_any_at (P := Try.prog) wr (w.heap.size + 1) (s.extract a b) pos ty hk h
  have he := fun (wr : World) (pos : Nat) (ty : TypeId) hk h => Lib.run_next_end_at (P := Try.prog) wr (w.heap.size + 1) (s.extract a b) pos ty hk h
  go_enter Try.func47, Try.ntmps47
  go_wp2
  go_loopw [6] (fun _ wr => ∃ pos : Nat, wr.heap[w.heap.size + 1]? = some (.stringIter (s.extract a b) pos) ∧ pos ≤ (s.extract a b).size ∧ Below w.heap.size w wr ∧ blankL (cutL s.data.toList a b) = blankL ((s.extract a b).data.toList.drop pos))
    (fun _ wr => (s.extract a b).size - wr.iterPos (w.heap.size + 1))
  case atStart =>
    refine ⟨0, ?_, Nat.zero_le _, ((Below.refl _ w).alloc (Nat.le_refl _) _).alloc (by simp) _, by rw [extract_list]; rfl⟩
    have := World.alloc_heap_new (w.alloc (Obj.cells #[Value.int IntKind.i64 (a : Nat), Value.int IntKind.i64 (b : Nat), Value.int IntKind.i64 (c : Nat)] 71)) (.stringIter (s.extract a b) 0)
    rwa [World.size_alloc] at this
  case round =>
    obtain ⟨pos, hit, hpos, hB, hbk⟩ := hrel
    generalize s.extract a b = x at *
    by_cases hlt : pos < x.size
    · have hdec := blank_decode x pos hlt
      have hle := decode_le x pos
      have hn' := fun ty => hn wr pos ty hit hlt
      rw [blankL_drop _ _ _ (list_get x pos hlt)] at hbk
      have hit2 := fun p => Lib.iterAt_heap wr (w.heap.size + 1) x pos p hit
      obtain ⟨r, hr⟩ : ∃ r, r = (Utf8.decode x pos).1 := ⟨_, rfl⟩
      obtain ⟨wd, hw⟩ : ∃ wd, wd = (Utf8.decode x pos).2 := ⟨_, rfl⟩
      rw [← hr] at hdec hle hn'
      rw [← hw] at hdec hn'
      by_cases hb : r = 32 ∨ r = 9
      · obtain ⟨hd1, hd2⟩ := hdec.1 hb
        rw [hd1, Bool.true_and] at hbk
        rw [hd2] at hn'
        have hbb : (((r : Nat) : Int) == 32 || ((r : Nat) : Int) == 9) = true := by
          rcases hb with rfl | rfl <;> rfl
        have hit3 := hit2 (pos + 1)
        have hB2 := Lib.below_iterAt hB (show w.heap.size ≤ w.heap.size + 1 by omega) x (pos + 1)
        have Hb := Lib.hid hbk
        have HB := Lib.hid hbb
        clear hdec hn he hr hw hbk hb hd1 hd2 hit2 hbb
        go_wp2_with (go_at_call 73; refine (Try.curblank_calls _ _).mono ?_; rw [HB.out]; rintro e w' ⟨rfl, rfl⟩)
        go_roundw
        case rel => exact ⟨pos + 1, hit3, by omega, hB2, Hb.out⟩
        case measure => simp [World.iterPos, hit, hit3]; omega
      · have hd1 := hdec.2 ⟨fun e => hb (.inl e), fun e => hb (.inr e)⟩
        rw [hd1, Bool.false_and] at hbk
        have hbb : (((r : Nat) : Int) == 32 || ((r : Nat) : Int) == 9) = false := by
          rw [Bool.or_eq_false_iff]; constructor <;> (rw [beq_eq_false_iff_ne]; omega)
        have hB2 := fun p => Lib.below_iterAt hB (show w.heap.size ≤ w.heap.size + 1 by omega) x p
        have Hb := Lib.hid hbk
        have HB := Lib.hid hbb
        have HB2 := Lib.hid hB2
        clear hdec hn he hr hw hbk hb hd1 hbb hit2 hB2
        go_wp2_with (go_at_call 73; refine (Try.curblank_calls _ _).mono ?_; rw [HB.out]; rintro e w' ⟨rfl, rfl⟩)
        go_ret
        rw [Hb.out]
        exact ⟨rfl, HB2.out _⟩
    · have hpe : pos = x.data.toList.length := by simp; omega
      have he' := fun ty => he wr pos ty hit hlt
      rw [hpe, List.drop_length] at hbk
      have Hb := Lib.hid hbk
      clear hn he hbk hpe
      go_wp2
      go_ret
      rw [Hb.out]
      exact ⟨rfl, hB⟩
#print axioms Try.Blank_calls
end Go.Proofs
/- cursor.Rows of this program: the lines that are not blank. Conditions: a text of at most a million bytes. -/
namespace Go.Cur
def bare (l : List UInt8) (p : Nat × Nat × Nat) : Bool := !blankL (cutL l p.1 p.2.1)
def rowsOf (l : List UInt8) : List (Nat × Nat × Nat) := (lines l).filter (bare l)
theorem lines_get {l : List UInt8} {k a b c : Nat} (h : (lines l)[k]? = some (a, b, c)) : a ≤ b ∧ b ≤ l.length ∧ b ≤ c ∧ c ≤ l.length + 1 := by
  simp only [lines, List.getElem?_map, Option.map_eq_some_iff] at h
  obtain ⟨⟨x, y⟩, h1, h2⟩ := h
  have h3 : (x, y) ∈ spans l := (List.takeWhile_sublist _).subset (List.mem_of_getElem? h1)
  have h4 := spans_mem (Nat.le_refl 0) (x, y) h3
  simp only [lineAt] at h2
  simp only at h4
  split at h2
  · simp only [Prod.mk.injEq] at h2
    omega
  · split at h2 <;> (simp only [Prod.mk.injEq] at h2; omega)
theorem rows_step {l : List UInt8} {k : Nat} {p : Nat × Nat × Nat} (h : (lines l)[k]? = some p) : ((lines l).take (k + 1)).filter (bare l) = ((lines l).take k).filter (bare l) ++ if bare l p then [p] else [] := by
  obtain ⟨hk, rfl⟩ := List.getElem?_eq_some_iff.1 h
  rw [List.take_succ_eq_append_getElem hk, List.filter_append]
  cases hb : bare l (lines l)[k] <;> simp [hb]
end Go.Cur
namespace Go
open Go.RowKit
theorem ownsRow_below {w w' : World} {base : Nat} {e : TypeId} {size : Nat} {v : Value} {k : Nat} {xs : List Value} {n₀ : Nat} (h : w.ownsRow base e size v k xs) (hb : Below n₀ w w') (hn : w.heap.size ≤ n₀) : w'.ownsRow base e size v k xs :=
  h.kept (hb.grownBy hn) (by cases v.ownBlock <;> simp)
theorem ownsRow_own {X Y : World} {base : Nat} {e : TypeId} {size : Nat} {v : Value} {k : Nat} {xs : List Value} (h2 : X.ownsRow base e size v k xs) {row : Option Nat} (hg : X.grownBy Y row) {B' : Nat} (hr : ∀ r, row = some r → B' ≤ r ∧ ∃ o : Obj, X.heap[r]? = some o ∧ o.isCells = false) : Y.ownsRow base e size v k xs := by
  refine h2.kept hg ?_
  rcases h2.2 with ⟨rfl, _⟩ | ⟨g, cap, cur, rfl, _, hgb, _⟩
  · exact .inl rfl
  · refine .inr fun e' => ?_
    obtain ⟨_, o, ho, hc⟩ := hr g (by simpa [Value.ownBlock] using e'.symm)
    rw [hgb] at ho; cases ho; cases hc
end Go
namespace Go.Proofs
open Go.RowKit Go.Shelf Go.Cur
attribute [local go_sem] Oper.semAt_some

set_option maxRecDepth 100000 in
set_option maxHeartbeats 1000000 in
theorem Try.Rows_calls (s : ByteArray) (w : World) (hs : s.size ≤ 1000000) :
    Calls Try.prog 27 #[.string s] w fun e w' => ∃ v, e = .returned v ∧ w'.ownsRow w.heap.size 71 3 v (rowsOf s.data.toList).length (lineCells (rowsOf s.data.toList)) ∧ Below w.heap.size w w' := by
  obtain ⟨i0, hi, hz0, hz1, hz2⟩ := info_parts Try.info71
  have hfn : ∀ f, Fence.wide.fn f := fun _ => trivial
  have hdp : Fence.wide.depth = none := rfl
  refine (callsIn_wide (n := 0)).1 (callsIn_of_wp_marks Try.func27 rfl trivial ?_ rfl)
  simp only [Try.ntmps27, List.size_toArray, List.length_cons, List.length_nil, Nat.reduceAdd, Nat.reduceSub, Array.replicate_succ, Array.replicate_zero, List.push_toArray, List.append_toArray, List.nil_append, List.cons_append]
  gi_wp2_with (gi_at_call 46; refine (callsIn_wide.2 (Try.lines_calls _ _)).mono ?_; rintro e w' ⟨rfl, rfl⟩)
  obtain ⟨V, hV⟩ : ∃ V, V = ((w.alloc (.cells #[.string s] 9)).alloc (.cells #[.slice none 0 0] 68)).alloc (.cells #[.string s] 9) := ⟨_, rfl⟩
  have hVs : V.heap.size = w.heap.size + 1 + 1 + 1 := by rw [hV]; simp
  have b0 : Boxed V w.heap.size 9 (.string s) := by rw [hV]; exact ((Boxed.new w 9 _).alloc _).alloc _
  have b1 : Boxed V (w.heap.size + 1) 68 (.slice none 0 0) := by rw [hV]; exact (Boxed.at 68 _ (by simp)).alloc _
  have b2 : Boxed V (w.heap.size + 1 + 1) 9 (.string s) := by rw [hV]; exact Boxed.at 9 _ (by simp)
  have hB : Below w.heap.size w V := by rw [hV]; exact (((Below.refl _ w).alloc (Nat.le_refl _) _).alloc (by simp) _).alloc (by simp; omega) _
  rw [← hV]
  clear hV
  refine range_seq (gf := 70) (lb := #[.pointer (some ⟨w.heap.size + 1 + 1, 0, none⟩)]) rfl enters27 (Try.lines1_seq _ s V hs (by omega) b2) (Below.refl _ _) (fun k x h => by obtain ⟨p, _, rfl⟩ := map_get h; rfl)
    (fun k W => ∃ v, Boxed W w.heap.size 9 (.string s) ∧ Boxed W (w.heap.size + 1) 68 v ∧ W.ownsRow w.heap.size 71 3 v (((lines s.data.toList).take k).filter (bare s.data.toList)).length (lineCells (((lines s.data.toList).take k).filter (bare s.data.toList))) ∧ Below w.heap.size w W)
    (fun _ _ => False)
    (fun k X Y row h hg hr => by
      obtain ⟨v, h0, h1, h2, h4⟩ := h
      exact ⟨v, h0.own hg hr, h1.own hg hr, ownsRow_own h2 hg hr, h4.own (Nat.le_refl _) hg (by omega) hr⟩)
    (fun _ _ _ _ _ h _ _ => h.elim)
    ⟨_, b0, b1, by simpa [lineCells] using World.ownsRow_nil V w.heap.size 71 3, hB⟩
    (fun x a' W => ∃ a b c Bx, x = #[.agg #[.int .i64 (a : Nat), .int .i64 (b : Nat), .int .i64 (c : Nat)]] ∧ w.heap.size + 1 < Bx ∧ W.heap[Bx]? = some (.cells #[.int .i64 (a : Nat), .int .i64 (b : Nat), .int .i64 (c : Nat)] 71 (0, 0)) ∧
      a' = { tmps := #[.string s, .pointer (some ⟨w.heap.size, 0, none⟩), .slice none 0 0, .pointer (some ⟨w.heap.size + 1, 0, none⟩), .pointer (some ⟨Bx, 0, none⟩), .string s, .func (.func 70) #[] #[.pointer (some ⟨w.heap.size + 1 + 1, 0, none⟩)], x[0]!, undef, undef, undef, undef, undef, undef, undef, undef, undef], defers := [] })
    (fun x a' _ X Y row h hg hr => by
      obtain ⟨a, b, c, Bx, rfl, h1, h2, rfl⟩ := h
      refine ⟨a, b, c, Bx, rfl, h1, (hg.block Bx (Array.getElem?_eq_some_iff.1 h2).1 (fun e => ?_)).trans h2, rfl⟩
      obtain ⟨_, o, ho, hc⟩ := hr Bx e.symm
      rw [h2] at ho; cases ho; cases hc) ?assign ?body ?done ?stop
  case assign =>
    intro l k x W K hx hi hK
    obtain ⟨⟨a, b, c⟩, hp, rfl⟩ := map_get hx
    obtain ⟨v, h0, h1, h2, h4⟩ := hi
    clear hx
    simp only [lineV]
    gi_wp2
    exact hK _ _ ((RF.refl _).alloc _) ⟨v, h0.alloc _, h1.alloc _, h2.alloc _, h4.alloc h4.size _⟩ ⟨a, b, c, W.heap.size, rfl, h1.lt, World.alloc_heap_new W _, rfl⟩
  case body =>
    rintro l k x a' W hx0 ⟨v, h0, h1, h2, h4⟩ ⟨a, b, c, Bx, rfl, hBx, hbx, rfl⟩
    obtain ⟨⟨a1, b1, c1⟩, hp, he⟩ := map_get hx0
    have he' : a = a1 ∧ b = b1 ∧ c = c1 := by simpa [lineV, Int.natCast_inj] using he
    obtain ⟨rfl, rfl, rfl⟩ := he'
    clear he hx0
    have hcs := h0.cell
    have hcv := h1.cell
    have x0 : W.cell? ⟨Bx, 0, none⟩ = some (.int .i64 (a : Nat)) := by simp [World.cell?, hbx]
    have x1 : W.cell? ⟨Bx, 1, none⟩ = some (.int .i64 (b : Nat)) := by simp [World.cell?, hbx]
    have x2 : W.cell? ⟨Bx, 2, none⟩ = some (.int .i64 (c : Nat)) := by simp [World.cell?, hbx]
    obtain ⟨hab, hbl, _, _⟩ := lines_get hp
    have hbl' : b ≤ s.size := by simpa using hbl
    have hbxl : Bx < W.heap.size := (Array.getElem?_eq_some_iff.1 hbx).1
    have hsz : w.heap.size ≤ W.heap.size := h4.size
    have hstep := rows_step hp
    have hln := lines_len s
    have hlt : (((lines s.data.toList).take k).filter (bare s.data.toList)).length ≤ s.size + 1 := by
      have h1 := List.length_filter_le (bare s.data.toList) ((lines s.data.toList).take k)
      have h2 := List.length_take_le k (lines s.data.toList)
      have h3 : ((lines s.data.toList).take k).length ≤ (lines s.data.toList).length := by rw [List.length_take]; omega
      omega
    have hcall := fun w1 : World => Try.Blank_calls s a b c w1 hab hbl'
    cases hbk : blankL (cutL s.data.toList a b) with
    | true =>
      rw [hbk] at hcall
      have hbare : bare s.data.toList (a, b, c) = false := by simp [bare, hbk]
      rw [if_neg (by rw [hbare]; simp), List.append_nil] at hstep
      have HC := Lib.hid hcall
      have HS := Lib.hid hstep
      clear hcall hstep hbare hbk hp hlt hln hab hbl
      simp only [List.getElem!_toArray, List.getElem!_cons_zero]
      gi_wp2_with (gi_at_call 47; refine (CallsIn.inRound l (callsIn_wide.2 (HC.out _))).mono ?_; rintro e w1 ⟨rfl, hb1⟩)
      exact ⟨(RF.refl _).below hb1 (Nat.le_refl _), v, h0.below hb1 h0.lt, h1.below hb1 h1.lt, by rw [HS.out]; exact ownsRow_below h2 hb1 (Nat.le_refl _), h4.trans (hb1.mono hsz)⟩
    | false =>
      rw [hbk] at hcall
      have hbare : bare s.data.toList (a, b, c) = true := by simp [bare, hbk]
      rw [if_pos hbare] at hstep
      have HC := Lib.hid hcall
      have HS := Lib.hid hstep
      clear hcall hstep hbare hbk hp hln hab hbl
      generalize ((lines s.data.toList).take k).filter (bare s.data.toList) = q at *
      have hml : q.length + 1 ≤ maxLen := by unfold maxLen; omega
      have hml2 : (q.length + 1) * 24 ≤ 140737488355328 := by omega
      clear hlt
      simp only [List.getElem!_toArray, List.getElem!_cons_zero]
      gi_wp2_with (first | (gi_at_call 47; refine (CallsIn.inRound l (callsIn_wide.2 (HC.out _))).mono ?_; rintro e w1 ⟨rfl, hb1⟩; have y1 := h1.below hb1 h1.lt; have y2 := ownsRow_below h2 hb1 (Nat.le_refl _); have y4 := h4.trans (hb1.mono hsz); have ycv := y1.cell; have z0 := (hb1.cell (p := ⟨Bx, 0, none⟩) hbxl).trans x0; have z1 := (hb1.cell (p := ⟨Bx, 1, none⟩) hbxl).trans x1; have z2 := (hb1.cell (p := ⟨Bx, 2, none⟩) hbxl).trans x2) | (gi_at_builtin; refine wpListIn_append_own _ rfl _ _ 68 rfl w.heap.size 71 i0 (.agg #[.int .i64 0, .int .i64 0, .int .i64 0]) 3 24 Try.underlying68 hi hz0 hz1 hz2 rfl (by decide) _ _ _ rfl (y2.alloc _) ⟨w1.heap.size, 0, none⟩ 1 1 [.int .i64 (a : Nat), .int .i64 (b : Nat), .int .i64 (c : Nat)] rfl rfl (curcells_new w1 #[.int .i64 (a : Nat), .int .i64 (b : Nat), .int .i64 (c : Nat)] 71) (by simp [Value.oneCell']) hml hml2 (by have := y4.size; simp; omega) ?_; intro v' w2 hown' hgrow _; obtain ⟨g', cap', rfl⟩ := ownsRow_succ hown'; obtain ⟨hv1, hv2, hr2, hk2, hb2⟩ := y1.appended (by decide) y2 y4.size (by omega) hown' hgrow; have hrf := RF.appended (T := stillT) (B0 := V.heap.size) (v' := .slice (some ⟨g', 0, none⟩) (q.length + 1) cap') y2 rfl (fun _ => rfl) hgrow hv1; have hc1 := hv1.cell; have hf1 := hv1.frozen))
      have hrf2 := ((RF.refl W).below hb1 (Nat.le_refl _)).trans hrf
      exact ⟨hrf2, _, hrf2.boxed h0 rfl, hv2, by rw [HS.out, lineCells_snoc, List.length_append]; exact hr2, y4.trans hb2⟩
  case done =>
    rintro D W hD ⟨v, h0, h1, h2, h4⟩ hK
    have hcv := h1.cell
    rw [linesV, List.length_map, List.take_length] at h2
    have H2 := Lib.hid h2
    clear h2
    gi_wp2
    refine ⟨by simp, .inl ⟨_, _, rfl, run_takeDeferred hK, ?_⟩⟩
    exact ⟨_, results_tmp rfl _ _ _, v, rfl, ownsRow_putObj H2.out _ hK rfl, h4.put (Nat.le_refl _) (by omega)⟩
  case stop => exact fun _ _ _ _ h _ => h.elim
#print axioms Try.Rows_calls
end Go.Proofs
/- Plain facts on the signs of a text, on where a class of them is first met, and on words; no program. -/
namespace Go.Wds

theorem get_of (s : ByteArray) (k : Nat) (h : k < s.size) : s.get! k = s[k]'h := by
  have := get_at s k h; simpa using this
theorem list_get (s : ByteArray) (k : Nat) (h : k < s.size) : s.data.toList[k]? = some (s[k]'h) := by
  have h' : k < s.data.toList.length := by simpa using h
  rw [List.getElem?_eq_getElem h']; rfl

theorem cont_high (b : UInt8) (h : (b.toNat / 64 == 2) = true) : 128 ≤ b.toNat := by
  have h' : b.toNat / 64 = 2 := by simpa using h
  omega

/-- A sign that is no single low byte has high bytes alone. -/
theorem decode_wide (s : ByteArray) (pos : Nat) (h : pos < s.size) (ha : 128 ≤ (s[pos]'h).toNat) :
    128 ≤ (Utf8.decode s pos).1 ∧ 1 ≤ (Utf8.decode s pos).2 ∧ pos + (Utf8.decode s pos).2 ≤ s.size ∧ ∀ j, pos ≤ j → j < pos + (Utf8.decode s pos).2 → 128 ≤ (s.get! j).toNat := by
  have hb' : 128 ≤ (s.get! (pos + 0)).toNat := by rw [get_at s pos h]; exact ha
  have hh := decode_high s pos h (by omega)
  refine ⟨hh.1, hh.2, ?_⟩
  have hn : ¬ (s.get! (pos + 0)).toNat < 128 := by omega
  clear hh ha
  simp only [Utf8.decode]
  rw [if_neg (by simpa using hn)]
  have one : pos + 1 ≤ s.size ∧ ∀ j, pos ≤ j → j < pos + 1 → 128 ≤ (s.get! j).toNat := ⟨h, fun j h1 h2 => by
    have : j = pos := by omega
    subst this; simpa using hb'⟩
  have two : ∀ m, (m ≤ 3) → (∀ k, 1 ≤ k → k ≤ m → (decide (pos + k < s.size) && (s.get! (pos + k)).toNat / 64 == 2) = true) → pos + (m + 1) ≤ s.size ∧ ∀ j, pos ≤ j → j < pos + (m + 1) → 128 ≤ (s.get! j).toNat := by
    intro m hm hk
    refine ⟨?_, fun j h1 h2 => ?_⟩
    · rcases Nat.eq_zero_or_pos m with rfl | hp
      · exact h
      · have := hk m hp (Nat.le_refl _)
        simp at this; omega
    · by_cases e : j = pos
      · subst e; simpa using hb'
      · have := hk (j - pos) (by omega) (by omega)
        rw [Bool.and_eq_true] at this
        have := cont_high _ this.2
        rwa [show pos + (j - pos) = j from by omega] at this
  split
  · rename_i hc
    simp only [Bool.and_eq_true] at hc
    split
    · refine two 1 (by omega) fun k h1 h2 => ?_
      obtain rfl : k = 1 := by omega
      simpa using hc.2
    · exact one
  · split
    · rename_i hc
      simp only [Bool.and_eq_true] at hc
      split
      · refine two 2 (by omega) fun k h1 h2 => ?_
        rcases (by omega : k = 1 ∨ k = 2) with rfl | rfl
        · simpa using hc.1.2
        · simpa using hc.2
      · exact one
    · split
      · rename_i hc
        simp only [Bool.and_eq_true] at hc
        split
        · refine two 3 (by omega) fun k h1 h2 => ?_
          rcases (by omega : k = 1 ∨ k = 2 ∨ k = 3) with rfl | rfl | rfl
          · simpa using hc.1.1.2
          · simpa using hc.1.2
          · simpa using hc.2
        · exact one
      · exact one

/-- A class of signs that takes all of the high ones, or none. -/
def Flat (p : Nat → Bool) : Prop := ∀ r, 128 ≤ r → p r = p 128
/-- A class, asked of a byte. -/
def ofB (p : Nat → Bool) (c : UInt8) : Bool := p c.toNat

theorem class_step {p : Nat → Bool} (hp : Flat p) (s : ByteArray) (pos : Nat) (h : pos < s.size) :
    p (Utf8.decode s pos).1 = ofB p (s[pos]'h) ∧ 1 ≤ (Utf8.decode s pos).2 ∧ pos + (Utf8.decode s pos).2 ≤ s.size ∧
    (p (Utf8.decode s pos).1 = false → ∀ j, pos ≤ j → j < pos + (Utf8.decode s pos).2 → ofB p (s.get! j) = false) := by
  by_cases ha : (s[pos]'h).toNat < 128
  · rw [decode_ascii s pos h ha]
    refine ⟨rfl, Nat.le_refl _, h, fun hf j h1 h2 => ?_⟩
    have : j = pos := by simp at h2; omega
    subst this
    rw [get_of s j h]; exact hf
  · obtain ⟨h1, h2, h3, h4⟩ := decode_wide s pos h (by omega)
    have e1 : p (Utf8.decode s pos).1 = p 128 := hp _ h1
    refine ⟨?_, h2, h3, fun hf j h5 h6 => ?_⟩
    · rw [e1]; exact (hp _ (by omega)).symm
    · rw [e1] at hf
      unfold ofB
      rw [hp _ (h4 j h5 h6), hf]

/-- The place of the first byte of l of a class, of those from a up to b; b, if there is none. -/
def seekFrom (q : UInt8 → Bool) (l : List UInt8) (a : Nat) : Nat → Nat
  | 0 => a
  | n + 1 => if (l[a]?.map q).getD false then a else seekFrom q l (a + 1) n
def seekL (q : UInt8 → Bool) (l : List UInt8) (a b : Nat) : Nat := seekFrom q l a (b - a)

theorem seekFrom_le (q : UInt8 → Bool) (l : List UInt8) : ∀ n a, a ≤ seekFrom q l a n ∧ seekFrom q l a n ≤ a + n
  | 0, a => ⟨Nat.le_refl _, Nat.le_refl _⟩
  | n + 1, a => by
    unfold seekFrom
    split
    · omega
    · have := seekFrom_le q l n (a + 1); omega
theorem seek_ge (q : UInt8 → Bool) (l : List UInt8) (a b : Nat) : a ≤ seekL q l a b := (seekFrom_le q l _ a).1
theorem seek_le {q : UInt8 → Bool} {l : List UInt8} {a b : Nat} (h : a ≤ b) : seekL q l a b ≤ b := by
  have := (seekFrom_le q l (b - a) a).2
  unfold seekL; omega
/-- What is sought is at r, if none of those ahead is of the class, and it is, or is the end. -/
theorem seekFrom_eq {q : UInt8 → Bool} {l : List UInt8} {r : Nat} : ∀ {n a : Nat}, a ≤ r → r ≤ a + n → (∀ j c, a ≤ j → j < r → l[j]? = some c → q c = false) → (r < a + n → ∃ c, l[r]? = some c ∧ q c = true) → seekFrom q l a n = r
  | 0, a, h1, h2, _, _ => by unfold seekFrom; omega
  | n + 1, a, h1, h2, h3, h4 => by
    unfold seekFrom
    by_cases e : a = r
    · subst e
      obtain ⟨c, hc, hq⟩ := h4 (by omega)
      rw [hc]; simp [hq]
    · have hf : (l[a]?.map q).getD false = false := by
        cases hc : l[a]? with
        | none => rfl
        | some c => exact h3 a c (Nat.le_refl _) (by omega) hc
      rw [hf]
      exact seekFrom_eq (by omega) (by omega) (fun j c h5 h6 => h3 j c (by omega) h6) (fun h => h4 (by omega))
theorem seek_eq {q : UInt8 → Bool} {l : List UInt8} {a b r : Nat} (h1 : a ≤ r) (h2 : r ≤ b) (h3 : ∀ j c, a ≤ j → j < r → l[j]? = some c → q c = false) (h4 : r < b → ∃ c, l[r]? = some c ∧ q c = true) : seekL q l a b = r :=
  seekFrom_eq h1 (by omega) h3 (fun h => h4 (by omega))
theorem seekFrom_none {q : UInt8 → Bool} {l : List UInt8} : ∀ {n a : Nat}, ∀ j c, a ≤ j → j < seekFrom q l a n → l[j]? = some c → q c = false
  | 0, a, j, c, h1, h2, _ => by unfold seekFrom at h2; omega
  | n + 1, a, j, c, h1, h2, h3 => by
    unfold seekFrom at h2
    split at h2
    · omega
    · rename_i hf
      by_cases e : j = a
      · subst e; rw [h3] at hf; simpa using hf
      · exact seekFrom_none j c (by omega) h2 h3
theorem seek_none {q : UInt8 → Bool} {l : List UInt8} {a b j : Nat} {c : UInt8} (h1 : a ≤ j) (h2 : j < seekL q l a b) (h3 : l[j]? = some c) : q c = false := seekFrom_none j c h1 h2 h3
theorem seekFrom_at {q : UInt8 → Bool} {l : List UInt8} : ∀ {n a : Nat}, seekFrom q l a n < a + n → ∃ c, l[seekFrom q l a n]? = some c ∧ q c = true
  | 0, a, h => by unfold seekFrom at h; omega
  | n + 1, a, h => by
    unfold seekFrom at h ⊢
    split at h
    · rename_i hf
      rw [if_pos hf]
      cases hc : l[a]? with
      | none => rw [hc] at hf; simp at hf
      | some c => rw [hc] at hf; exact ⟨c, rfl, by simpa using hf⟩
    · rename_i hf
      rw [if_neg hf]
      exact seekFrom_at (by omega)
theorem seek_at {q : UInt8 → Bool} {l : List UInt8} {a b : Nat} (hab : a ≤ b) (h : seekL q l a b < b) : ∃ c, l[seekL q l a b]? = some c ∧ q c = true :=
  seekFrom_at (by unfold seekL at h; omega)

/-- A blank. -/
def blk (c : UInt8) : Bool := c == 32 || c == 9
/-- No blank. -/
def ink (c : UInt8) : Bool := !(c == 32 || c == 9)

/-- The words of the n bytes of l from a on, told byte by byte. -/
def grow (l : List UInt8) (a i : Nat) (out : List (Nat × Nat)) : List (Nat × Nat) :=
  if (l[i]?.map blk).getD true then out
  else if a < i ∧ (l[i - 1]?.map blk).getD true = false then out.dropLast ++ [((out.getLast?.map Prod.fst).getD 0, i + 1)]
  else out ++ [(i, i + 1)]
def wds (l : List UInt8) (a : Nat) : Nat → List (Nat × Nat)
  | 0 => []
  | n + 1 => grow l a (a + n) (wds l a n)
def wordsL (l : List UInt8) (a b : Nat) : List (Nat × Nat) := wds l a (b - a)

theorem wds_blank {l : List UInt8} {a n c : Nat} (h : ∀ j x, a + n ≤ j → j < a + n + c → l[j]? = some x → blk x = true) : wds l a (n + c) = wds l a n := by
  induction c with
  | zero => rfl
  | succ c ih =>
    show grow l a (a + (n + c)) (wds l a (n + c)) = _
    rw [ih (fun j x h1 h2 => h j x h1 (by omega))]
    unfold grow
    rw [if_pos]
    cases hc : l[a + (n + c)]? with
    | none => rfl
    | some x => exact h _ x (by omega) (by omega) hc
theorem wds_word {l : List UInt8} {a n c : Nat} (hl : a + n + (c + 1) ≤ l.length) (h0 : n = 0 ∨ ∀ x, l[a + n - 1]? = some x → blk x = true) (h : ∀ j x, a + n ≤ j → j < a + n + (c + 1) → l[j]? = some x → blk x = false) : wds l a (n + (c + 1)) = wds l a n ++ [(a + n, a + n + (c + 1))] := by
  induction c with
  | zero =>
    show grow l a (a + n) (wds l a n) = _
    unfold grow
    have hc : l[a + n]? = some l[a + n] := List.getElem?_eq_getElem (by omega)
    have hb := h _ _ (Nat.le_refl _) (by omega) hc
    rw [if_neg (by rw [hc]; simp [hb]), if_neg]
    · rcases h0 with h0 | h0
      · subst h0; omega
      · rintro ⟨h1, h2⟩
        have hd : l[a + n - 1]? = some l[a + n - 1] := List.getElem?_eq_getElem (by omega)
        rw [hd] at h2
        have := h0 _ hd
        simp [this] at h2
  | succ c ih =>
    have ih := ih (by omega) (fun j x h1 h2 => h j x h1 (by omega))
    show grow l a (a + (n + (c + 1))) (wds l a (n + (c + 1))) = _
    rw [ih]
    unfold grow
    have hc : l[a + (n + (c + 1))]? = some l[a + (n + (c + 1))] := List.getElem?_eq_getElem (by omega)
    have hb := h _ _ (by omega) (by omega) hc
    have hd : l[a + (n + (c + 1)) - 1]? = some l[a + (n + (c + 1)) - 1] := List.getElem?_eq_getElem (by omega)
    have hb2 := h _ _ (by omega) (by omega) hd
    rw [if_neg (by rw [hc]; simp [hb]), if_pos ⟨by omega, by rw [hd]; simp [hb2]⟩]
    simp
    omega

theorem words_blank {l : List UInt8} {a b c : Nat} (hab : a ≤ b) (hbc : b ≤ c) (h : ∀ j x, b ≤ j → j < c → l[j]? = some x → blk x = true) : wordsL l a c = wordsL l a b := by
  have := wds_blank (l := l) (a := a) (n := b - a) (c := c - b) (fun j x h1 h2 => h j x (by omega) (by omega))
  rw [show b - a + (c - b) = c - a from by omega] at this
  exact this
theorem words_word {l : List UInt8} {a b c : Nat} (hab : a ≤ b) (hbc : b < c) (hl : c ≤ l.length) (h0 : b = a ∨ ∀ x, l[b - 1]? = some x → blk x = true) (h : ∀ j x, b ≤ j → j < c → l[j]? = some x → blk x = false) : wordsL l a c = wordsL l a b ++ [(b, c)] := by
  have := wds_word (l := l) (a := a) (n := b - a) (c := c - b - 1) (by omega) (by rcases h0 with h0 | h0; exact .inl (by omega); exact .inr (by rw [show a + (b - a) = b from by omega]; exact h0)) (fun j x h1 h2 => h j x (by omega) (by omega))
  rw [show b - a + (c - b - 1 + 1) = c - a from by omega, show a + (b - a) = b from by omega, show b + (c - b - 1 + 1) = c from by omega] at this
  exact this
theorem words_nil (l : List UInt8) (a : Nat) : wordsL l a a = [] := by unfold wordsL; rw [Nat.sub_self]; rfl
theorem words_len (l : List UInt8) (a b : Nat) : (wordsL l a b).length ≤ b - a := by
  unfold wordsL
  generalize b - a = n
  induction n with
  | zero => exact Nat.le_refl _
  | succ n ih =>
    show (grow l a (a + n) (wds l a n)).length ≤ _
    unfold grow
    split
    · omega
    · split
      · simp; omega
      · simp; omega
end Go.Wds
/- strings.IndexRune and strings.ContainsRune in this program, at a text of low bytes. Conditions: the text's bytes are all below 128; the sign is one that a decoder can tell. -/
namespace Go.Wds
theorem indexByte_ge (l : List UInt8) (c : UInt8) : -1 ≤ Lib.indexByte l c := by
  induction l with
  | nil => exact Int.le_refl _
  | cons b l ih =>
    unfold Lib.indexByte
    split
    · omega
    · split
      · omega
      · omega
theorem indexByte_mem (l : List UInt8) (c : UInt8) : decide (0 ≤ Lib.indexByte l c) = l.any (fun x => x == c) := by
  induction l with
  | nil => rfl
  | cons b l ih =>
    unfold Lib.indexByte
    have h1 := indexByte_ge l c
    rw [List.any_cons, ← ih]
    cases hb : b == c with
    | true => simp
    | false =>
      rw [Bool.false_or]
      by_cases h2 : Lib.indexByte l c = -1
      · simp [h2]
      · have h3 : (Lib.indexByte l c == -1) = false := by rw [beq_eq_false_iff_ne]; exact h2
        rw [if_neg (by simp), if_neg (by rw [h3]; simp), decide_eq_decide]; omega
theorem indexByte_none {l : List UInt8} {c : UInt8} (h : ∀ x ∈ l, x ≠ c) : Lib.indexByte l c = -1 := by
  have h1 := indexByte_mem l c
  have h2 := indexByte_ge l c
  have h3 : l.any (fun x => x == c) = false := by
    rw [List.any_eq_false]
    intro x hx
    simpa using h x hx
  rw [h3, decide_eq_false_iff_not] at h1
  omega
/-- A text of low bytes. -/
def Low (s : ByteArray) : Prop := ∀ x ∈ s.data.toList, x.toNat < 128
theorem Low.at {s : ByteArray} (h : Low s) (k : Nat) (hk : k < s.size) : (s[k]'hk).toNat < 128 :=
  h _ (List.mem_of_getElem? (list_get s k hk))
/-- Whether a text has a sign. -/
def has (s : ByteArray) (r : Nat) : Bool := s.data.toList.any (fun c => c.toNat == r)
theorem has_high {s : ByteArray} (h : Low s) {r : Nat} (hr : 128 ≤ r) : has s r = false := by
  unfold has
  rw [List.any_eq_false]
  intro x hx
  have := h x hx
  simp; omega
theorem has_low (s : ByteArray) {r : Nat} (hr : r < 128) : decide (0 ≤ Lib.indexByte s.data.toList (r : Int).toNat.toUInt8) = has s r := by
  rw [indexByte_mem]
  unfold has
  congr 1
  funext x
  have h1 : ((r : Int).toNat.toUInt8).toNat = r := by simp; omega
  rw [Bool.eq_iff_iff, beq_iff_eq, beq_iff_eq, ← UInt8.toNat_inj, h1]
end Go.Wds
namespace Go.Proofs
open Go.RowKit Go.Shelf Go.Wds

set_option maxRecDepth 100000 in
set_option maxHeartbeats 2000000 in
theorem Try.IndexRune_high (s : ByteArray) (r : Nat) (w : World) (hlow : Low s) (h0 : 128 ≤ r) (h1 : r ≤ 1114111) :
    Calls Try.prog 85 #[.string s, .int .i32 (r : Int)] w fun e w' => e = .returned (.int .i64 (-1)) ∧ Below w.heap.size w w' := by
  have d1 : decide ((0 : Int) ≤ (r : Int)) = true := decide_eq_true (by omega)
  have d2 : decide ((r : Int) < 128) = false := decide_eq_false (by omega)
  by_cases he : r = 65533
  · subst he
    have hn := fun (wr : World) (pos : Nat) (ty : TypeId) hk h => Lib.run_next_any_at (P := Try.prog) wr w.heap.size s pos ty hk h
    have hend := fun (wr : World) (pos : Nat) (ty : TypeId) hk h => Lib.run_next_end_at (P := Try.prog) wr w.heap.size s pos ty hk h
    clear d1 d2
    go_enter Try.func85, Try.ntmps85
    go_wp2
    go_loopw [] (fun wr => ∃ pos : Nat, wr.heap[w.heap.size]? = some (.stringIter s pos) ∧ pos ≤ s.size ∧ Below w.heap.size w wr) (fun wr => s.size - wr.iterPos w.heap.size)
    case atStart => exact ⟨0, World.iter_heap w s 0, Nat.zero_le _, (Below.refl _ w).alloc (Nat.le_refl _) _⟩
    case round =>
      obtain ⟨pos, hit, hpos, hB⟩ := hrel
      by_cases hlt : pos < s.size
      · have hn' := fun ty => hn wr pos ty hit hlt
        have hl := hlow.at pos hlt
        rw [decode_ascii s pos hlt hl] at hn'
        have hne : (((s[pos]'hlt).toNat : Int) == 65533) = false := by rw [beq_eq_false_iff_ne]; omega
        have hit2 := Lib.iterAt_heap wr w.heap.size s pos (pos + 1) hit
        have hB2 := Lib.below_iterAt hB (k := w.heap.size) (Nat.le_refl _) s (pos + 1)
        clear hn hend hl hlow
        go_wp2
        go_roundw
        case rel => exact ⟨pos + 1, hit2, by omega, hB2⟩
        case measure => simp [World.iterPos, hit, hit2]; omega
      · have he' := fun ty => hend wr pos ty hit hlt
        clear hn hend hlow
        go_wp2
        go_ret
        exact ⟨rfl, hB⟩
  · have d3 : ((r : Int) == 65533) = false := by rw [beq_eq_false_iff_ne]; omega
    cases hv : Lib.validRune (r : Int) with
    | false =>
      have hc := Lib.hid (Try.utf8_ValidRune (r : Int))
      rw [hv] at hc
      clear he
      go_enter Try.func85, Try.ntmps85
      go_wp2_with (go_at_call 90; (with_reducible refine (hc.out _).mono ?_); rintro e w' ⟨rfl, rfl⟩)
      go_ret
      exact ⟨rfl, Below.refl _ _⟩
    | true =>
      have hc := Lib.hid (Try.utf8_ValidRune (r : Int))
      rw [hv] at hc
      have hval : Utf8.valid (r : Int) = true := by
        simp only [Lib.validRune, Utf8.valid] at hv ⊢
        simp at hv ⊢
        omega
      obtain ⟨e1, e2, e3⟩ := encode_facts (r : Int) hval (by omega)
      obtain ⟨E, hE⟩ : ∃ E, Utf8.encode (r : Int) = E := ⟨_, rfl⟩
      rw [hE] at e1 e2 e3
      have E3 := Lib.hid (e3 (by omega))
      obtain ⟨n, hn⟩ : ∃ n, E.size = n + 1 := ⟨E.size - 1, by omega⟩
      have HN := Lib.hid hn
      have hb0 : ((E.size : Int) - 1) = (n : Int) := by omega
      have hn3 : n ≤ 3 := by omega
      clear he hv hval e3 hn
      go_enter Try.func85, Try.ntmps85
      go_wp2_with (go_at_call 90; (with_reducible refine (hc.out _).mono ?_); rintro e w' ⟨rfl, rfl⟩)
      clear hc d1 d2 d3
      go_step3
      go_wp2
      clear hE
      clear hb0
      go_loopw [9] (fun i wr => i = .int .i64 (n : Int) ∧ wr = w') (fun _ _ => 0)
      case atStart => exact ⟨rfl, rfl⟩
      case round =>
        obtain ⟨rfl, rfl⟩ := hrel
        have hkE : n < E.size := by have := HN.out; omega
        by_cases hk : n < s.size
        · have h4 : 128 ≤ (E[n]'hkE).toNat := by
            have h := E3.out
            simpa only [HN.out, Nat.add_sub_cancel] using h
          have hne : (((s[n]'hk).toNat : Int) != ((E[n]'hkE).toNat : Int)) = true := by
            rw [bne_iff_ne]
            have h3 := hlow.at _ hk
            omega
          have hi : ∀ W : World, Calls Try.prog 89 #[.string (s.extract (n + 1) s.size), .int .u8 ((E[n]'hkE).toNat : Int)] W fun e w' => e = .returned (.int .i64 (-1)) ∧ w' = W := by
            intro W
            have h := Try.strings_IndexByte (s.extract (n + 1) s.size) ((E[n]'hkE).toNat : Int) W
            rw [indexByte_none] at h
            · exact h
            · intro x hx e
              have h5 : x ∈ s.data.toList := by
                simp only [ByteArray.data_extract, Array.toList_extract, List.extract_eq_take_drop] at hx
                exact List.mem_of_mem_drop (List.mem_of_mem_take hx)
              have h6 := hlow x h5
              subst e
              simp at h6
              omega
          have w1 : IntKind.i64.wrap ((n : Int) + 1) = (n : Int) + 1 := IntWalk.i64_in _ (by omega)
          have w2 : ((n : Int) + 1).toNat = n + 1 := by omega
          have hx1 : (n : Int) < (s.size : Int) := by omega
          have hx2 : (n : Int) < (E.size : Int) := by omega
          have hx3 : (n : Int) + 1 ≤ (s.size : Int) := by omega
          have hx4 : (0 : Int) ≤ (n : Int) + 1 := by omega
          have hx5 : n + 1 ≤ s.size := by omega
          have hi2 := Lib.hid hi
          clear hi E3 hlow h4
          go_wp2
          go_step3
          go_wp2
          go_quiet (fail)
          obtain ⟨V, hV⟩ : ∃ V, V = wr.drewN nq := ⟨_, rfl⟩
          rw [← hV]
          have hBV : Below wr.heap.size wr V := by rw [hV]; exact ⟨rfl, rfl, rfl, Nat.le_refl _, fun _ _ => rfl⟩
          clear hV
          go_wp2
          go_quiet ((go_at_call 89; exact Calls.quiet_of_same (hi2.out _)))
          go_wp2
          try rw [Exit.noGoto_ret]
          simp only [Exit.inBlock]
          go_wp2
          try rw [Exit.noGoto_ret]
          go_ret
          exact ⟨rfl, hBV.trans ⟨rfl, rfl, rfl, Nat.le_refl _, fun _ _ => rfl⟩⟩
        · clear E3 hlow
          go_wp2
          try rw [Exit.noGoto_ret]
          go_ret
          exact ⟨rfl, Below.refl _ _⟩

set_option maxRecDepth 100000 in
theorem Try.ContainsRune_calls (s : ByteArray) (r : Nat) (w : World) (hlow : Low s) (h1 : r ≤ 1114111) :
    Calls Try.prog 75 #[.string s, .int .i32 (r : Int)] w fun e w' => e = .returned (.bool (has s r)) ∧ Below w.heap.size w w' := by
  by_cases h : r < 128
  · refine (Try.strings_ContainsRune_ascii s (r : Int) w (by omega) (by omega)).mono ?_
    rintro e w' ⟨rfl, rfl⟩
    exact ⟨by rw [has_low s h], Below.refl _ _⟩
  · have hc := Lib.hid fun w => Try.IndexRune_high s r w hlow (by omega) h1
    have hf := Lib.hid (has_high hlow (show 128 ≤ r by omega))
    clear h h1 hlow
    go_enter Try.func75, Try.ntmps75
    go_wp2_with (go_at_call 85; (with_reducible refine (hc.out _).mono ?_); rintro e w1 ⟨rfl, hb⟩)
    go_ret
    rw [hf.out]
    exact ⟨rfl, hb⟩
#print axioms Try.IndexRune_high
#print axioms Try.ContainsRune_calls
end Go.Proofs
/- The classes of signs of this program: what the closures of words.oneOf, span, not and either answer. Conditions: signs that a decoder can tell; a list of low bytes. -/
namespace Go.Proofs
open Go.RowKit Go.Shelf Go.Wds

/-- The closure g with what it holds, lb, is the class p: in w and in whatever w grows into. -/
def Class (g : Nat) (lb : Array Value) (p : Nat → Bool) (w : World) : Prop :=
  ∀ (W : World) (x : Nat), x ≤ 1114111 → Below w.heap.size w W → Calls Try.prog g (#[.int .i32 (x : Int)] ++ lb) W fun e w' => e = .returned (.bool (p x)) ∧ Below W.heap.size W w'
theorem Class.later {g : Nat} {lb : Array Value} {p : Nat → Bool} {w W : World} (h : Class g lb p w) (hb : Below w.heap.size w W) : Class g lb p W :=
  fun W' x hx hb' => h W' x hx (hb.trans (hb'.mono hb.size))
/-- A value of a class, and what it is to call it. -/
def IsClass (v : Value) (p : Nat → Bool) (w : World) : Prop :=
  ∃ (g : Nat) (lb : Array Value), v = .func (.func g) #[] lb ∧ (∀ args w, (callFunc g args).run Try.prog w = .ok (.enter g args) w) ∧ Class g lb p w
theorem IsClass.later {v : Value} {p : Nat → Bool} {w W : World} (h : IsClass v p w) (hb : Below w.heap.size w W) : IsClass v p W := by
  obtain ⟨g, lb, h1, h2, h3⟩ := h
  exact ⟨g, lb, h1, h2, h3.later hb⟩

theorem Try.enters37 : ∀ args w, (callFunc 74 args).run Try.prog w = .ok (.enter 74 args) w := enters_of Try.func74 (by kernel_rfl) rfl
theorem Try.enters39 : ∀ args w, (callFunc 76 args).run Try.prog w = .ok (.enter 76 args) w := enters_of Try.func76 (by kernel_rfl) rfl

/-- The box of a closure: a cell of w that stands. -/
def Box (w : World) (b : Nat) (v : Value) : Prop := b < w.heap.size ∧ w.cell? ⟨b, 0, none⟩ = some v
theorem Box.later {w W : World} {b : Nat} {v : Value} (h : Box w b v) {n : Nat} (hb : Below n w W) (hn : b < n) : Box W b v :=
  ⟨Nat.lt_of_lt_of_le h.1 hb.size, (hb.cell (p := ⟨b, 0, none⟩) hn).trans h.2⟩
theorem Box.new (w : World) (v : Value) (t : TypeId) : Box (w.alloc (.cells #[v] t)) w.heap.size v := ⟨by simp, by simp⟩

theorem Try.class_oneOf (s : ByteArray) (b : Nat) (w : World) (hlow : Low s) (hb : Box w b (.string s)) : Class 74 #[.pointer (some ⟨b, 0, none⟩)] (has s) w := by
  intro W x hx hW
  have hc := Lib.hid fun w => Try.ContainsRune_calls s x w hlow hx
  have h0 := (hb.later hW hb.1).2
  clear hlow hW hb
  go_enter Try.func74, Try.ntmps74
  go_wp2_with (go_at_call 75; (with_reducible refine (hc.out _).mono ?_); rintro e w1 ⟨rfl, hb1⟩)
  go_ret
  exact ⟨rfl, hb1⟩

def between (a b : Nat) (r : Nat) : Bool := decide (a ≤ r) && decide (r ≤ b)

theorem Try.class_not {v : Value} {p : Nat → Bool} {b : Nat} {w : World} (hv : IsClass v p w) (hb : Box w b v) : Class 76 #[.pointer (some ⟨b, 0, none⟩)] (fun x => !p x) w := by
  obtain ⟨g, lb, rfl, eg, hcl⟩ := hv
  intro W x hx hW
  have h0 := (hb.later hW hb.1).2
  have hc := Lib.hid (hcl W x hx hW)
  clear hcl hW hb
  cases hp : p x <;> rw [hp] at hc
  all_goals
    have HP := Lib.hid hp
    clear hp
    go_enter Try.func76, Try.ntmps76
    go_wp2_with (go_at_fn g; refine hc.out.mono ?_; rintro e w1 ⟨rfl, hb1⟩)
    go_ret
    rw [HP.out]
    exact ⟨rfl, hb1⟩

/-- The block g holds classes ps. -/
def Hold (w : World) (g : Nat) (ps : List (Nat → Bool)) : Prop :=
  g < w.heap.size ∧ ∀ (i : Nat) (p : Nat → Bool), ps[i]? = some p → ∃ v, w.cell? ⟨g, i, none⟩ = some v ∧ IsClass v p w
theorem Hold.later {w W : World} {g : Nat} {ps : List (Nat → Bool)} (h : Hold w g ps) (hb : Below w.heap.size w W) : Hold W g ps := by
  refine ⟨Nat.lt_of_lt_of_le h.1 hb.size, fun i p hp => ?_⟩
  obtain ⟨v, h1, h2⟩ := h.2 i p hp
  exact ⟨v, (hb.cell (p := ⟨g, i, none⟩) h.1).trans h1, h2.later hb⟩
def anyOf (ps : List (Nat → Bool)) (x : Nat) : Bool := ps.any (fun p => p x)
theorem any_step {ps : List (Nat → Bool)} {k : Nat} {p : Nat → Bool} (h : ps[k]? = some p) (x : Nat) : anyOf (ps.drop k) x = (p x || anyOf (ps.drop (k + 1)) x) := by
  obtain ⟨hk, rfl⟩ := List.getElem?_eq_some_iff.1 h
  rw [List.drop_eq_getElem_cons hk]; rfl


theorem Try.oneOf_calls (s : ByteArray) (w : World) (hlow : Low s) :
    Calls Try.prog 49 #[.string s] w fun e w' => ∃ v, e = .returned v ∧ IsClass v (has s) w' ∧ Below w.heap.size w w' := by
  have HL := Lib.hid hlow
  clear hlow
  go_enter Try.func49, Try.ntmps49
  go_wp2
  go_ret
  exact ⟨_, rfl, ⟨74, _, rfl, Try.enters37, Try.class_oneOf s w.heap.size _ HL.out (Box.new _ _ _)⟩, (Below.refl _ _).alloc (Nat.le_refl _) _⟩
theorem Try.not_calls {v : Value} {p : Nat → Bool} {w : World} (hv : IsClass v p w) :
    Calls Try.prog 50 #[v] w fun e w' => ∃ v', e = .returned v' ∧ IsClass v' (fun x => !p x) w' ∧ Below w.heap.size w w' := by
  have HV := Lib.hid hv
  obtain ⟨g, lb, rfl, _⟩ := hv
  go_enter Try.func50, Try.ntmps50
  go_wp2
  go_ret
  have hb := fun o => Below.alloc (Below.refl w.heap.size w) (Nat.le_refl _) o
  exact ⟨_, rfl, ⟨76, _, rfl, Try.enters39, Try.class_not (HV.out.later (hb _)) (Box.new _ _ _)⟩, hb _⟩
#print axioms Try.class_oneOf
#print axioms Try.class_not
end Go.Proofs
