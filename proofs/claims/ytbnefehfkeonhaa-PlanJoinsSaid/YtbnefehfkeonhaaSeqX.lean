/- My own laws for 'for x := range f' whose elements are told by a predicate of the world (an element may itself be a function that was made but now): outside rounds, and within a round of another such loop; no program. Conditions: a walk at the fence that asks nothing; no panic and no defer in a round. -/
import Derived.Test.YtbnefehfkeonhaaSeq
namespace Go
open Go.RowKit
variable {T : Nat → TypeId → Bool} {B : Nat}

/-- The cells of the blocks below n stand. -/
structure Still (n : Nat) (W W' : World) : Prop where
  size : W.heap.size ≤ W'.heap.size
  cells : ∀ (k : Nat) (c : Array Value) (t : TypeId) (z : Nat × Nat), k < n → W.heap[k]? = some (.cells c t z) → W'.heap[k]? = some (.cells c t z)
theorem Still.refl (n : Nat) (W : World) : Still n W W := ⟨Nat.le_refl _, fun _ _ _ _ _ h => h⟩
theorem Still.trans {n : Nat} {X Y Z : World} (h : Still n X Y) (k : Still n Y Z) : Still n X Z := ⟨Nat.le_trans h.size k.size, fun i c t z hi hc => k.cells i c t z hi (h.cells i c t z hi hc)⟩
theorem Still.of_below {n : Nat} {X Y : World} (h : Below n X Y) : Still n X Y := ⟨h.size, fun i _ _ _ hi hc => (h.block i hi).trans hc⟩
theorem Still.rf {n : Nat} {X Y Z : World} (h : Still n X Y) (k : RF T B Y Z) (hT : ∀ b t, b < n → T b t = true) : Still n X Z := ⟨Nat.le_trans h.size k.size, fun i c t z hi hc => k.steady i c t z (hT i t hi) (h.cells i c t z hi hc)⟩
theorem Still.own {n : Nat} {X Y Z : World} (h : Still n X Y) {row : Option Nat} (hg : Y.grownBy Z row) {B' : Nat} (hr : ∀ r, row = some r → B' ≤ r ∧ ∃ o : Obj, Y.heap[r]? = some o ∧ o.isCells = false) : Still n X Z :=
  ⟨Nat.le_trans h.size hg.size, fun i c t z hi hc => by
    have h1 := h.cells i c t z hi hc
    refine (hg.block i (Array.getElem?_eq_some_iff.1 h1).1 (fun e => ?_)).trans h1
    obtain ⟨_, o, ho, hoc⟩ := hr i e.symm
    rw [h1] at ho; cases ho; cases hoc⟩
theorem Still.alloc {n : Nat} {X Y : World} (h : Still n X Y) (o : Obj) : Still n X (Y.alloc o) :=
  ⟨Nat.le_trans h.size (by simp), fun i c t z hi hc => (Below.heap_alloc _ _ _ (Array.getElem?_eq_some_iff.1 (h.cells i c t z hi hc)).1).trans (h.cells i c t z hi hc)⟩
theorem Still.setCell {n : Nat} {X Y : World} (h : Still n X Y) {p : Addr} (hp : n ≤ p.block) (v : Value) : Still n X (Y.setCell p v) :=
  ⟨Nat.le_trans h.size (by simp [World.setCell]), fun i c t z hi hc => (Below.heap_setCell _ _ _ _ (by omega)).trans (h.cells i c t z hi hc)⟩
theorem Still.drew {n : Nat} {X Y : World} (h : Still n X Y) : Still n X Y.drew := ⟨h.size, h.cells⟩
theorem Still.cell {n : Nat} {X Y : World} (h : Still n X Y) {p : Addr} {v : Value} (hp : p.block < n) (hc : X.cell? p = some v) : Y.cell? p = some v := by
  unfold World.cell? at hc ⊢
  cases ho : X.heap[p.block]? with
  | none => rw [ho] at hc; cases hc
  | some o =>
    cases o with
    | cells c t z => rw [ho] at hc; rw [h.cells _ c t z hp ho]; exact hc
    | _ => rw [ho] at hc; cases hc
/-- A loop's own bookkeeping leaves what a round keeps. -/
theorem RF.ownF {β : Type} {B' : Nat} {X : World} (hB : X.heap.size ≤ B') : OwnFrom B' (fun (_ : β) W => RF T B X W) := fun _ Y Z row hs hg hr =>
  ⟨Nat.le_trans hs.size hg.size, fun k o hk h0 ho => by
    have h1 := hs.other k o hk h0 ho
    refine (hg.block k (Array.getElem?_eq_some_iff.1 h1).1 (fun e => ?_)).trans h1
    have h2 := (hr k e.symm).1
    have h3 := (Array.getElem?_eq_some_iff.1 h0).1
    omega,
  fun k c t z ht hk => by
    have h1 := hs.steady k c t z ht hk
    refine (hg.block k (Array.getElem?_eq_some_iff.1 h1).1 (fun e => ?_)).trans h1
    have h2 := (hr k e.symm).1
    have h3 := (Array.getElem?_eq_some_iff.1 hk).1
    omega⟩
theorem RF.setNew {X Y : World} (h : RF T B X Y) {b : Nat} (hb : X.heap.size ≤ b) (v : Value) : RF T B X (Y.setCell ⟨b, 0, none⟩ v) := by
  refine ⟨Nat.le_trans h.size (by simp [World.setCell]), fun k o hk h0 ho => ?_, fun k c t z ht hk => ?_⟩
  · have h3 := (Array.getElem?_eq_some_iff.1 h0).1
    exact (Below.heap_setCell _ _ _ _ (by show k ≠ b; omega)).trans (h.other k o hk h0 ho)
  · have h3 := (Array.getElem?_eq_some_iff.1 hk).1
    exact (Below.heap_setCell _ _ _ _ (by show k ≠ b; omega)).trans (h.steady k c t z ht hk)

/-- The contract of an iterator value: N elements, each as X says, in their order, till a round says no more. -/
def SeqX (T : Nat → TypeId → Bool) (P : Program) (gf : Nat) (lb : Array Value) (N : Nat) (X : Nat → Array Value → World → Prop) (w : World) : Prop :=
  ∀ (l : Nat) (J : Nat → World → Prop) (Jx : World → Prop) (W : World), Below w.heap.size w W → OwnFrom W.heap.size J → OwnFrom W.heap.size (fun (_ : Unit) => Jx) →
    (∀ (k : Nat) (x : Array Value) (W1 : World), k < N → W.heap.size ≤ W1.heap.size → X k x W1 → J k W1 → YieldAt Fence.wide 0 P l x W1 fun e W' => RF T W.heap.size W1 W' ∧ ((e = .returned (.bool true) ∧ J (k + 1) W') ∨ (e = .returned (.bool false) ∧ Jx W'))) →
    J 0 W →
    Calls P gf (#[.func (.yield l) #[] #[]] ++ lb) W fun e W' => (∃ v, e = .returned v) ∧ (J N W' ∨ Jx W')

theorem SeqX.later {P : Program} {gf : Nat} {lb : Array Value} {N : Nat} {X : Nat → Array Value → World → Prop} {w w' : World} (h : SeqX T P gf lb N X w) (hb : Below w.heap.size w w') : SeqX T P gf lb N X w' :=
  fun l J Jx W hW => h l J Jx W (hb.trans (hW.mono hb.size))

theorem range_seqX {P : Program} {g : Operand} {ps : Array Tmp} {assign body : Code} {Q : Exit → Act → World → Prop} {a : Act} {w : World}
    {gf : Nat} {lb : Array Value} (hg : a.eval g = .func (.func gf) #[] lb) (eg : ∀ args w, (callFunc gf args).run P w = .ok (.enter gf args) w)
    {N : Nat} {X : Nat → Array Value → World → Prop} {w0 : World} (hseq : SeqX T P gf lb N X w0) (hb0 : Below w0.heap.size w0 w) (hps : ∀ (k : Nat) (x : Array Value) (W : World), X k x W → x.size = ps.size)
    (I : Nat → World → Prop) (Ix : Code → World → Prop) (hI : OwnFrom w.heap.size I) (hIx : ∀ c, OwnFrom w.heap.size (fun (_ : Unit) => Ix c)) (h0 : I 0 w)
    (Ax : Nat → Act → World → Prop) (hAx : ∀ k a', OwnFrom w.heap.size (fun (_ : Unit) W => Ax k a' W))
    (hassign : ∀ (l k : Nat) (x : Array Value) (W : World) (K : Act → World → Prop), k < N → w.heap.size ≤ W.heap.size → X k x W → I k W → (∀ a' W', RF T w.heap.size W W' → I k W' → Ax k a' W' → K a' W') →
      assign.wpIn (Fence.wide.inRound l) 0 P (Exit.then K (fun _ _ _ => False)) { tmps := (ps.zip x).foldl (fun t (p, v) => t.setIfInBounds p v) a.tmps, defers := [] } W)
    (hbody : ∀ (l k : Nat) (a' : Act) (W : World), k < N → w.heap.size ≤ l → (∃ r, W.heap[l]? = some (.loop r)) → I k W → Ax k a' W → body.wpIn (Fence.wide.inRound l) 0 P (seqPost T w.heap.size I Ix k W) a' W)
    (hdone : ∀ (D : Nat) (W : World), w.heap.size ≤ D → I N W → W.heap[D]? = some (.deferred (some [])) → Q .normal { a with defers := { target := .collected D, args := #[] } :: a.defers } W)
    (hstop : ∀ (D : Nat) (c : Code) (W : World), w.heap.size ≤ D → Ix c W → W.heap[D]? = some (.deferred (some [])) → c.wpIn Fence.wide 0 P Q { a with defers := { target := .collected D, args := #[] } :: a.defers } W) :
    (Code.rangeFunc g ps assign body).wpIn Fence.wide 0 P Q a w := by
  refine wpIn_rangeFunc fun fn hfn => ?_
  -- the record, and the two new blocks
  let rec' : LoopState → Option Code → Loop := fun st pe => { state := st, pending := pe, fn, tmps := a.tmps, params := ps, assign, body, defers := w.heap.size }
  obtain ⟨D, hD⟩ : ∃ D, D = w.heap.size := ⟨_, rfl⟩
  obtain ⟨V, hV⟩ : ∃ V, V = (w.alloc (.deferred (some []))).alloc (.loop (rec' .ready none)) := ⟨_, rfl⟩
  have hVs : V.heap.size = D + 2 := by rw [hV, hD]; simp
  have vl : V.heap[D + 1]? = some (.loop (rec' .ready none)) := by
    have h := World.alloc_heap_new (w.alloc (.deferred (some []))) (.loop (rec' .ready none))
    rw [World.size_alloc, ← hV, ← hD] at h; exact h
  have vd : V.heap[D]? = some (.deferred (some [])) := by
    rw [hV, hD]; exact (Below.heap_alloc _ _ _ (by simp)).trans (World.alloc_heap_new w _)
  have vI : I 0 V := by rw [hV]; exact hI.alloc _ (hI.alloc _ h0)
  have vb : Below w0.heap.size w0 V := by
    rw [hV]; exact hb0.trans ((((Below.refl _ w).alloc (Nat.le_refl _) _).alloc (by simp) _).mono hb0.size)
  -- what the iterator may turn is neither cells nor the two
  have keep : ∀ {A C : World} {row : Option Nat}, A.grownBy C row → (∀ r, row = some r → V.heap.size ≤ r ∧ ∃ o : Obj, A.heap[r]? = some o ∧ o.isCells = false) → ∀ j o, j < D + 2 → A.heap[j]? = some o → C.heap[j]? = some o :=
    fun hg' hr j o hj ho => (hg'.block j (Array.getElem?_eq_some_iff.1 ho).1 (fun e => by have := (hr j e.symm).1; omega)).trans ho
  have wide : ∀ {A : World} {row : Option Nat}, (∀ r, row = some r → V.heap.size ≤ r ∧ ∃ o : Obj, A.heap[r]? = some o ∧ o.isCells = false) → (∀ r, row = some r → w.heap.size ≤ r ∧ ∃ o : Obj, A.heap[r]? = some o ∧ o.isCells = false) :=
    fun hr r e => ⟨by have := (hr r e).1; omega, (hr r e).2⟩
  refine ⟨D + 1, [{ target := .collected D, args := #[] }], V, { target := .fn (.func gf) lb, args := #[.func (.yield (D + 1)) #[] #[]] }, V, gf, #[.func (.yield (D + 1)) #[] #[]] ++ lb, V, ?_, ?_, fun _ _ => trivial, ?_, fun h => (by cases h), ?_⟩
  · rw [hV, hD]; exact run_enterLoop_outer _ _ _ _ _
  · simp only [resolve, hg]; simp [go_sem]
  · simp [invoke, go_sem, eg]
  refine (callsIn_wide.2 (hseq (D + 1)
    (fun k W => I k W ∧ W.heap[D + 1]? = some (.loop (rec' .ready none)) ∧ W.heap[D]? = some (.deferred (some [])))
    (fun W => ∃ c, Ix c W ∧ W.heap[D + 1]? = some (.loop (rec' .done (some c))) ∧ W.heap[D]? = some (.deferred (some [])))
    V vb (fun s A C row hs hg' hr => ⟨hI s A C row hs.1 hg' (wide hr), keep hg' hr _ _ (by omega) hs.2.1, keep hg' hr _ _ (by omega) hs.2.2⟩)
    (fun s A C row hs hg' hr => by
      obtain ⟨c, hc, hl, hk⟩ := hs
      exact ⟨c, hIx c s A C row hc hg' (wide hr), keep hg' hr _ _ (by omega) hl, keep hg' hr _ _ (by omega) hk⟩)
    ?_ ⟨vI, vl, vd⟩)).mono ?_
  · -- one round
    rintro k x W hkN hWs hx ⟨hi, hl, hk⟩
    have hy := run_yield (P := P) (args := x) hl (hps k x W hx)
    refine ⟨fn, _, assign, body, hy, roundIn_of_wpIn trivial (hassign _ k x W _ hkN (by omega) hx hi ?_)⟩
    intro a' Wa hra hia haa
    have hl1 := hra.other _ _ (by omega) hl rfl
    have hk1 := hra.other _ _ (by omega) hk rfl
    have hlt : D + 1 < Wa.heap.size := (Array.getElem?_eq_some_iff.1 hl1).1
    refine ⟨_, run_beginRound hl1 rfl, ?_⟩
    have r1 : RF T (D + 2) W (Wa.putObj (D + 1) (.loop { rec' .ready none with state := .busy })) := (hra.mono (by omega)).put hl1 rfl (by omega)
    have hl2 : (Wa.putObj (D + 1) (.loop { rec' .ready none with state := .busy })).heap[D + 1]? = some (.loop { rec' .ready none with state := .busy }) := World.putObj_heap_same hlt
    have hk2 : (Wa.putObj (D + 1) (.loop { rec' .ready none with state := .busy })).heap[D]? = some (.deferred (some [])) := (World.putObj_heap_other (by omega)).trans hk1
    refine wpIn_mono (hbody _ k a' _ hkN (by omega) ⟨_, hl2⟩ (hI.putObj _ hia (by omega) hl1 rfl) ((hAx k a').putObj (s := ()) _ haa (by omega) hl1 rfl)) ?_
    generalize (Wa.putObj (D + 1) (.loop { rec' .ready none with state := .busy })) = Wb at r1 hl2 hk2 ⊢
    have fin : ∀ (jump : Option Code) (W3 : World), RF T w.heap.size Wb W3 → ∃ W4,
        (Instr.endRound (D + 1) jump).run P W3 = .ok (.bool jump.isNone) W4 ∧ W3.heap[D + 1]? = some (.loop { rec' .ready none with state := .busy }) ∧ W4 = W3.putObj (D + 1) (.loop (rec' (if jump.isNone then .ready else .done) jump)) ∧
        W4.heap[D + 1]? = some (.loop (rec' (if jump.isNone then .ready else .done) jump)) ∧ W4.heap[D]? = some (.deferred (some [])) ∧ RF T V.heap.size W W4 := fun jump W3 hr3 => by
      have hl3 := hr3.other _ _ (by omega) hl2 rfl
      have hk3 := hr3.other _ _ (by omega) hk2 rfl
      refine ⟨_, run_endRound jump hl3, hl3, rfl, World.putObj_heap_same (Array.getElem?_eq_some_iff.1 hl3).1, (World.putObj_heap_other (by omega)).trans hk3, ?_⟩
      rw [hVs]
      exact (r1.trans (hr3.mono (by omega))).put hl3 rfl (by omega)
    rintro e a3 W3 hp
    cases e with
    | normal =>
      obtain ⟨W4, h1, h2, rfl, h4, h5, h6⟩ := fin none W3 hp.1
      exact ⟨_, _, h1, h6, .inl ⟨rfl, hI.putObj _ hp.2 (by omega) h2 rfl, h4, h5⟩⟩
    | ret =>
      obtain ⟨W4, h1, h2, rfl, h4, h5, h6⟩ := fin (some .ret) W3 hp.1
      exact ⟨_, _, h1, h6, .inr ⟨rfl, .ret, (hIx _).putObj (s := ()) _ hp.2 (by omega) h2 rfl, h4, h5⟩⟩
    | exit id =>
      obtain ⟨W4, h1, h2, rfl, h4, h5, h6⟩ := fin (some (.exit id)) W3 hp.1
      exact ⟨_, _, h1, h6, .inr ⟨rfl, .exit id, (hIx _).putObj (s := ()) _ hp.2 (by omega) h2 rfl, h4, h5⟩⟩
    | goto t =>
      obtain ⟨W4, h1, h2, rfl, h4, h5, h6⟩ := fin (some (.goto t)) W3 hp.1
      exact ⟨_, _, h1, h6, .inr ⟨rfl, .goto t, (hIx _).putObj (s := ()) _ hp.2 (by omega) h2 rfl, h4, h5⟩⟩
    | panic ch => exact hp.elim
    | outgrown => exact hp.elim
  · rintro e W2 ⟨⟨v, rfl⟩, (⟨hi, hl, hk⟩ | ⟨c, hc, hl, hk⟩)⟩
    · exact ⟨none, _, run_endLoop hl (by simp [rec']), hdone D _ (by omega) (hI.putObj _ hi (by omega) hl rfl) ((World.putObj_heap_other (by omega)).trans hk)⟩
    · exact ⟨some c, _, run_endLoop hl (by simp [rec']), hstop D c _ (by omega) ((hIx c).putObj (s := ()) _ hc (by omega) hl rfl) ((World.putObj_heap_other (by omega)).trans hk)⟩

theorem range_seqX_in {P : Program} {g : Operand} {ps : Array Tmp} {assign body : Code} {Q : Exit → Act → World → Prop} {a : Act} {w : World} {l₀ : Nat} (hl₀ : ∃ r, w.heap[l₀]? = some (.loop r))
    {gf : Nat} {lb : Array Value} (hg : a.eval g = .func (.func gf) #[] lb) (eg : ∀ args w, (callFunc gf args).run P w = .ok (.enter gf args) w)
    {N : Nat} {X : Nat → Array Value → World → Prop} {w0 : World} (hseq : SeqX T P gf lb N X w0) (hb0 : Below w0.heap.size w0 w) (hps : ∀ (k : Nat) (x : Array Value) (W : World), X k x W → x.size = ps.size)
    (I : Nat → World → Prop) (Ix : Code → World → Prop) (hI : OwnFrom w.heap.size I) (hIx : ∀ c, OwnFrom w.heap.size (fun (_ : Unit) => Ix c)) (h0 : I 0 w)
    (Ax : Nat → Act → World → Prop) (hAx : ∀ k a', OwnFrom w.heap.size (fun (_ : Unit) W => Ax k a' W))
    (hassign : ∀ (l k : Nat) (x : Array Value) (W : World) (K : Act → World → Prop), k < N → w.heap.size ≤ W.heap.size → X k x W → I k W → (∀ a' W', RF T w.heap.size W W' → I k W' → Ax k a' W' → K a' W') →
      assign.wpIn (Fence.wide.inRound l) 0 P (Exit.then K (fun _ _ _ => False)) { tmps := (ps.zip x).foldl (fun t (p, v) => t.setIfInBounds p v) a.tmps, defers := [] } W)
    (hbody : ∀ (l k : Nat) (a' : Act) (W : World), k < N → w.heap.size ≤ l → (∃ r, W.heap[l]? = some (.loop r)) → I k W → Ax k a' W → body.wpIn (Fence.wide.inRound l) 0 P (seqPost T w.heap.size I Ix k W) a' W)
    (hdone : ∀ (W : World), I N W → Q .normal a W)
    (hstop : ∀ (c : Code) (W : World), Ix c W → c.wpIn (Fence.wide.inRound l₀) 0 P Q a W) :
    (Code.rangeFunc g ps assign body).wpIn (Fence.wide.inRound l₀) 0 P Q a w := by
  obtain ⟨r₀, hl₀⟩ := hl₀
  refine wpIn_rangeFunc fun fn hfn => ?_
  let rec' : LoopState → Option Code → Loop := fun st pe => { state := st, pending := pe, fn, tmps := a.tmps, params := ps, assign, body, defers := r₀.defers }
  obtain ⟨D, hD⟩ : ∃ D, D = w.heap.size := ⟨_, rfl⟩
  obtain ⟨V, hV⟩ : ∃ V, V = w.alloc (.loop (rec' .ready none)) := ⟨_, rfl⟩
  have hVs : V.heap.size = D + 1 := by rw [hV, hD]; simp
  have vl : V.heap[D]? = some (.loop (rec' .ready none)) := by
    rw [hV, hD]; exact World.alloc_heap_new w _
  have vI : I 0 V := by rw [hV]; exact hI.alloc _ h0
  have vb : Below w0.heap.size w0 V := by
    rw [hV]; exact hb0.trans (((Below.refl _ w).alloc (Nat.le_refl _) _).mono hb0.size)
  have keep : ∀ {A C : World} {row : Option Nat}, A.grownBy C row → (∀ r, row = some r → V.heap.size ≤ r ∧ ∃ o : Obj, A.heap[r]? = some o ∧ o.isCells = false) → ∀ j o, j < D + 1 → A.heap[j]? = some o → C.heap[j]? = some o :=
    fun hg' hr j o hj ho => (hg'.block j (Array.getElem?_eq_some_iff.1 ho).1 (fun e => by have := (hr j e.symm).1; omega)).trans ho
  have wide : ∀ {A : World} {row : Option Nat}, (∀ r, row = some r → V.heap.size ≤ r ∧ ∃ o : Obj, A.heap[r]? = some o ∧ o.isCells = false) → (∀ r, row = some r → w.heap.size ≤ r ∧ ∃ o : Obj, A.heap[r]? = some o ∧ o.isCells = false) :=
    fun hr r e => ⟨by have := (hr r e).1; omega, (hr r e).2⟩
  refine ⟨D, [], V, { target := .fn (.func gf) lb, args := #[.func (.yield D) #[] #[]] }, V, gf, #[.func (.yield D) #[] #[]] ++ lb, V, ?_, ?_, fun _ _ => trivial, ?_, fun h => (by cases h), ?_⟩
  · rw [hV, hD]; exact run_enterLoop_inner hl₀ _ _ _ _ _
  · simp only [resolve, hg]; simp [go_sem]
  · simp [invoke, go_sem, eg]
  refine ((callsIn_wide.2 (hseq D
    (fun k W => I k W ∧ W.heap[D]? = some (.loop (rec' .ready none)))
    (fun W => ∃ c, Ix c W ∧ W.heap[D]? = some (.loop (rec' .done (some c))))
    V vb (fun s A C row hs hg' hr => ⟨hI s A C row hs.1 hg' (wide hr), keep hg' hr _ _ (by omega) hs.2⟩)
    (fun s A C row hs hg' hr => by
      obtain ⟨c, hc, hl⟩ := hs
      exact ⟨c, hIx c s A C row hc hg' (wide hr), keep hg' hr _ _ (by omega) hl⟩)
    ?_ ⟨vI, vl⟩)).mono ?_).inRound l₀
  · -- one round
    rintro k x W hkN hWs hx ⟨hi, hl⟩
    have hy := run_yield (P := P) (args := x) hl (hps k x W hx)
    refine ⟨fn, _, assign, body, hy, roundIn_of_wpIn trivial (hassign _ k x W _ hkN (by omega) hx hi ?_)⟩
    intro a' Wa hra hia haa
    have hl1 := hra.other _ _ (by omega) hl rfl
    have hlt : D < Wa.heap.size := (Array.getElem?_eq_some_iff.1 hl1).1
    refine ⟨_, run_beginRound hl1 rfl, ?_⟩
    have r1 : RF T (D + 1) W (Wa.putObj D (.loop { rec' .ready none with state := .busy })) := (hra.mono (by omega)).put hl1 rfl (by omega)
    have hl2 : (Wa.putObj D (.loop { rec' .ready none with state := .busy })).heap[D]? = some (.loop { rec' .ready none with state := .busy }) := World.putObj_heap_same hlt
    refine wpIn_mono (hbody _ k a' _ hkN (by omega) ⟨_, hl2⟩ (hI.putObj _ hia (by omega) hl1 rfl) ((hAx k a').putObj (s := ()) _ haa (by omega) hl1 rfl)) ?_
    generalize (Wa.putObj D (.loop { rec' .ready none with state := .busy })) = Wb at r1 hl2 ⊢
    have fin : ∀ (jump : Option Code) (W3 : World), RF T w.heap.size Wb W3 → ∃ W4,
        (Instr.endRound D jump).run P W3 = .ok (.bool jump.isNone) W4 ∧ W3.heap[D]? = some (.loop { rec' .ready none with state := .busy }) ∧ W4 = W3.putObj D (.loop (rec' (if jump.isNone then .ready else .done) jump)) ∧
        W4.heap[D]? = some (.loop (rec' (if jump.isNone then .ready else .done) jump)) ∧ RF T V.heap.size W W4 := fun jump W3 hr3 => by
      have hl3 := hr3.other _ _ (by omega) hl2 rfl
      refine ⟨_, run_endRound jump hl3, hl3, rfl, World.putObj_heap_same (Array.getElem?_eq_some_iff.1 hl3).1, ?_⟩
      rw [hVs]
      exact (r1.trans (hr3.mono (by omega))).put hl3 rfl (by omega)
    rintro e a3 W3 hp
    cases e with
    | normal =>
      obtain ⟨W4, h1, h2, rfl, h4, h6⟩ := fin none W3 hp.1
      exact ⟨_, _, h1, h6, .inl ⟨rfl, hI.putObj _ hp.2 (by omega) h2 rfl, h4⟩⟩
    | ret =>
      obtain ⟨W4, h1, h2, rfl, h4, h6⟩ := fin (some .ret) W3 hp.1
      exact ⟨_, _, h1, h6, .inr ⟨rfl, .ret, (hIx _).putObj (s := ()) _ hp.2 (by omega) h2 rfl, h4⟩⟩
    | exit id =>
      obtain ⟨W4, h1, h2, rfl, h4, h6⟩ := fin (some (.exit id)) W3 hp.1
      exact ⟨_, _, h1, h6, .inr ⟨rfl, .exit id, (hIx _).putObj (s := ()) _ hp.2 (by omega) h2 rfl, h4⟩⟩
    | goto t =>
      obtain ⟨W4, h1, h2, rfl, h4, h6⟩ := fin (some (.goto t)) W3 hp.1
      exact ⟨_, _, h1, h6, .inr ⟨rfl, .goto t, (hIx _).putObj (s := ()) _ hp.2 (by omega) h2 rfl, h4⟩⟩
    | panic ch => exact hp.elim
    | outgrown => exact hp.elim
  · rintro e W2 ⟨⟨v, rfl⟩, (⟨hi, hl⟩ | ⟨c, hc, hl⟩)⟩
    · exact ⟨none, _, run_endLoop hl (by simp [rec']), hdone _ (hI.putObj _ hi (by omega) hl rfl)⟩
    · exact ⟨some c, _, run_endLoop hl (by simp [rec']), hstop c _ ((hIx c).putObj (s := ()) _ hc (by omega) hl rfl)⟩

#print axioms range_seqX
#print axioms range_seqX_in
end Go
