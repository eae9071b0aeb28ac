/- As the law for 'for x := range f', where f's call makes cells of its own first, next to one another, which no round writes; no program. -/
import Derived.Test.YtipajbcamdcnkaaDoorSeq
namespace Go
open Go.RowKit
variable {T : Nat → TypeId → Bool} {B : Nat}

/-- What a round keeps: the cells that T tells, and those of the blocks from N on, 'own' of them. -/
def keepO (T : Nat → TypeId → Bool) (N own : Nat) (b : Nat) (t : TypeId) : Bool := T b t || (decide (N ≤ b) && decide (b < N + own))
theorem keepO_own {T : Nat → TypeId → Bool} {N own b : Nat} (t : TypeId) (h1 : N ≤ b) (h2 : b < N + own) : keepO T N own b t = true := by simp [keepO, h1, h2]
theorem RF.sub {T T' : Nat → TypeId → Bool} {X Y : World} (h : RF T B X Y) (hT : ∀ b t, T' b t = true → T b t = true) : RF T' B X Y := ⟨h.size, h.other, fun k c t z ht => h.steady k c t z (hT k t ht)⟩

/-- It abides the turn of what is no cells, from B on, and of the 'own' blocks from A on. -/
def OwnR {β : Type} (B A own : Nat) (I : β → World → Prop) : Prop :=
  ∀ s W W' row, I s W → W.grownBy W' row → (∀ r, row = some r → (B ≤ r ∧ ∃ o : Obj, W.heap[r]? = some o ∧ o.isCells = false) ∨ (A ≤ r ∧ r < A + own)) → I s W'
theorem OwnR.from {β : Type} {B A own : Nat} {I : β → World → Prop} (h : OwnR B A own I) : OwnFrom B I := fun s W W' row hs hg hr => h s W W' row hs hg fun r e => .inl (hr r e)
theorem OwnR.setOwn {β : Type} {B A own : Nat} {I : β → World → Prop} (h : OwnR B A own I) {s : β} {W : World} {b : Nat} (v : Value) (hs : I s W) (h1 : A ≤ b) (h2 : b < A + own) : I s (W.setCell ⟨b, 0, none⟩ v) :=
  h s W _ (some b) hs (grownBy_setCell' W b v) fun r e => by cases e; exact .inr ⟨h1, h2⟩
/-- The contract of an iterator value whose call makes 'own' cells first: each element of xs, in its order, till a round says no more. -/
def SeqO (own : Nat) (T : Nat → TypeId → Bool) (P : Program) (gf : Nat) (lb : Array Value) (xs : List (Array Value)) (w : World) : Prop :=
  ∀ (l : Nat) (J : Nat → World → Prop) (Jx : World → Prop) (W : World), Below w.heap.size w W → OwnR W.heap.size W.heap.size own J → OwnR W.heap.size W.heap.size own (fun (_ : Unit) => Jx) →
    (∀ (k : Nat) (x : Array Value) (W1 : World), xs[k]? = some x → W.heap.size + own ≤ W1.heap.size → J k W1 → YieldAt Fence.wide 0 P l x W1 fun e W' => RF (keepO T W.heap.size own) W.heap.size W1 W' ∧ ((e = .returned (.bool true) ∧ J (k + 1) W') ∨ (e = .returned (.bool false) ∧ Jx W'))) →
    J 0 W →
    Calls P gf (#[.func (.yield l) #[] #[]] ++ lb) W fun e W' => (∃ v, e = .returned v) ∧ (J xs.length W' ∨ Jx W')

theorem range_seqO {own : Nat} {T' : Nat → TypeId → Bool} {P : Program} {g : Operand} {ps : Array Tmp} {assign body : Code} {Q : Exit → Act → World → Prop} {a : Act} {w : World}
    {gf : Nat} {lb : Array Value} (hg : a.eval g = .func (.func gf) #[] lb) (eg : ∀ args w, (callFunc gf args).run P w = .ok (.enter gf args) w)
    {xs : List (Array Value)} {w0 : World} (hseq : SeqO own T P gf lb xs w0) (hT' : T' = keepO T (w.heap.size + 2) own) (hb0 : Below w0.heap.size w0 w) (hps : ∀ (k : Nat) (x : Array Value), xs[k]? = some x → x.size = ps.size)
    (I : Nat → World → Prop) (Ix : Code → World → Prop) (hI : OwnR w.heap.size (w.heap.size + 2) own I) (hIx : ∀ c, OwnR w.heap.size (w.heap.size + 2) own (fun (_ : Unit) => Ix c)) (h0 : I 0 w)
    (Ax : Array Value → Act → World → Prop) (hAx : ∀ x a', OwnFrom w.heap.size (fun (_ : Unit) W => Ax x a' W))
    (hassign : ∀ (l k : Nat) (x : Array Value) (W : World) (K : Act → World → Prop), xs[k]? = some x → w.heap.size + 2 + own ≤ W.heap.size → I k W → (∀ a' W', RF T' w.heap.size W W' → I k W' → Ax x a' W' → K a' W') →
      assign.wpIn (Fence.wide.inRound l) 0 P (Exit.then K (fun _ _ _ => False)) { tmps := (ps.zip x).foldl (fun t (p, v) => t.setIfInBounds p v) a.tmps, defers := [] } W)
    (hbody : ∀ (l k : Nat) (x : Array Value) (a' : Act) (W : World), xs[k]? = some x → w.heap.size + 2 + own ≤ W.heap.size → I k W → Ax x a' W → body.wpIn (Fence.wide.inRound l) 0 P (seqPost T' w.heap.size I Ix k W) a' W)
    (hdone : ∀ (D : Nat) (W : World), w.heap.size ≤ D → I xs.length W → W.heap[D]? = some (.deferred (some [])) → Q .normal { a with defers := { target := .collected D, args := #[] } :: a.defers } W)
    (hstop : ∀ (D : Nat) (c : Code) (W : World), w.heap.size ≤ D → Ix c W → W.heap[D]? = some (.deferred (some [])) → c.wpIn Fence.wide 0 P Q { a with defers := { target := .collected D, args := #[] } :: a.defers } W) :
    (Code.rangeFunc g ps assign body).wpIn Fence.wide 0 P Q a w := by
  refine wpIn_rangeFunc fun fn hfn => ?_
  -- the record, and the two new blocks
  let rec' : LoopState → Option Code → Loop := fun st pe => { state := st, pending := pe, fn, tmps := a.tmps, params := ps, assign, body, defers := w.heap.size }
  obtain ⟨D, hD⟩ : ∃ D, D = w.heap.size := ⟨_, rfl⟩
  obtain ⟨V, hV⟩ : ∃ V, V = (w.alloc (.deferred (some []))).alloc (.loop (rec' .ready none)) := ⟨_, rfl⟩
  have hVs : V.heap.size = D + 2 := by rw [hV, hD]; simp
  have hTV : keepO T V.heap.size own = T' := by rw [hT', hVs, hD]
  have vl : V.heap[D + 1]? = some (.loop (rec' .ready none)) := by
    have h := World.alloc_heap_new (w.alloc (.deferred (some []))) (.loop (rec' .ready none))
    rw [World.size_alloc, ← hV, ← hD] at h; exact h
  have vd : V.heap[D]? = some (.deferred (some [])) := by
    rw [hV, hD]; exact (Below.heap_alloc _ _ _ (by simp)).trans (World.alloc_heap_new w _)
  have vI : I 0 V := by rw [hV]; exact hI.from.alloc _ (hI.from.alloc _ h0)
  have vb : Below w0.heap.size w0 V := by
    rw [hV]; exact hb0.trans ((((Below.refl _ w).alloc (Nat.le_refl _) _).alloc (by simp) _).mono hb0.size)
  -- what the iterator may turn is neither cells nor the two
  have keep : ∀ {A C : World} {row : Option Nat}, A.grownBy C row → (∀ r, row = some r → (V.heap.size ≤ r ∧ ∃ o : Obj, A.heap[r]? = some o ∧ o.isCells = false) ∨ (V.heap.size ≤ r ∧ r < V.heap.size + own)) → ∀ j o, j < D + 2 → A.heap[j]? = some o → C.heap[j]? = some o :=
    fun hg' hr j o hj ho => (hg'.block j (Array.getElem?_eq_some_iff.1 ho).1 (fun e => by rcases hr j e.symm with h | h <;> omega)).trans ho
  have wide : ∀ {A : World} {row : Option Nat}, (∀ r, row = some r → (V.heap.size ≤ r ∧ ∃ o : Obj, A.heap[r]? = some o ∧ o.isCells = false) ∨ (V.heap.size ≤ r ∧ r < V.heap.size + own)) → (∀ r, row = some r → (w.heap.size ≤ r ∧ ∃ o : Obj, A.heap[r]? = some o ∧ o.isCells = false) ∨ (w.heap.size + 2 ≤ r ∧ r < w.heap.size + 2 + own)) :=
    fun hr r e => (hr r e).imp (fun h => ⟨by have := h.1; omega, h.2⟩) (fun h => by omega)
  refine ⟨D + 1, [{ target := .collected D, args := #[] }], V, { target := .fn (.func gf) lb, args := #[.func (.yield (D + 1)) #[] #[]] }, V, gf, #[.func (.yield (D + 1)) #[] #[]] ++ lb, V, ?_, ?_, fun _ _ => trivial, ?_, fun h => (by cases h), ?_⟩
  · rw [hV, hD]; exact run_enterLoop_outer _ _ _ _ _
  · simp only [resolve, hg]; simp [go_sem]
  · simp [invoke, go_sem, eg]
  refine (callsIn_wide.2 (hseq (D + 1)
    (fun k W => I k W ∧ W.heap[D + 1]? = some (.loop (rec' .ready none)) ∧ W.heap[D]? = some (.deferred (some [])))
    (fun W => ∃ c, Ix c W ∧ W.heap[D + 1]? = some (.loop (rec' .done (some c))) ∧ W.heap[D]? = some (.deferred (some [])))
    V vb (fun s A C row hs hg' hr => ⟨hI s A C row hs.1 hg' (wide hr), keep hg' hr _ _ (by omega) hs.2.1, keep hg' hr _ _ (by omega) hs.2.2⟩)
    (fun s A C row hs hg' hr => by
      obtain ⟨c, hc, hl, hk⟩ := hs
      exact ⟨c, hIx c s A C row hc hg' (wide hr), keep hg' hr _ _ (by omega) hl, keep hg' hr _ _ (by omega) hk⟩)
    ?_ ⟨vI, vl, vd⟩)).mono ?_
  · -- one round
    rw [hTV]
    rintro k x W hx hsz ⟨hi, hl, hk⟩
    have hsz' : w.heap.size + 2 + own ≤ W.heap.size := by omega
    have hy := run_yield (P := P) (args := x) hl (hps k x hx)
    refine ⟨fn, _, assign, body, hy, roundIn_of_wpIn trivial (hassign _ k x W _ hx hsz' hi ?_)⟩
    intro a' Wa hra hia haa
    have hl1 := hra.other _ _ (by omega) hl rfl
    have hk1 := hra.other _ _ (by omega) hk rfl
    have hlt : D + 1 < Wa.heap.size := (Array.getElem?_eq_some_iff.1 hl1).1
    refine ⟨_, run_beginRound hl1 rfl, ?_⟩
    have r1 : RF T' (D + 2) W (Wa.putObj (D + 1) (.loop { rec' .ready none with state := .busy })) := (hra.mono (by omega)).put hl1 rfl (by omega)
    have hl2 : (Wa.putObj (D + 1) (.loop { rec' .ready none with state := .busy })).heap[D + 1]? = some (.loop { rec' .ready none with state := .busy }) := World.putObj_heap_same hlt
    have hk2 : (Wa.putObj (D + 1) (.loop { rec' .ready none with state := .busy })).heap[D]? = some (.deferred (some [])) := (World.putObj_heap_other (by omega)).trans hk1
    refine wpIn_mono (hbody _ k x a' _ hx (by have := hra.size; simp; omega) (hI.from.putObj _ hia (by omega) hl1 rfl) ((hAx x a').putObj (s := ()) _ haa (by omega) hl1 rfl)) ?_
    generalize (Wa.putObj (D + 1) (.loop { rec' .ready none with state := .busy })) = Wb at r1 hl2 hk2 ⊢
    have fin : ∀ (jump : Option Code) (W3 : World), RF T' w.heap.size Wb W3 → ∃ W4,
        (Instr.endRound (D + 1) jump).run P W3 = .ok (.bool jump.isNone) W4 ∧ W3.heap[D + 1]? = some (.loop { rec' .ready none with state := .busy }) ∧ W4 = W3.putObj (D + 1) (.loop (rec' (if jump.isNone then .ready else .done) jump)) ∧
        W4.heap[D + 1]? = some (.loop (rec' (if jump.isNone then .ready else .done) jump)) ∧ W4.heap[D]? = some (.deferred (some [])) ∧ RF T' V.heap.size W W4 := fun jump W3 hr3 => by
      have hl3 := hr3.other _ _ (by omega) hl2 rfl
      have hk3 := hr3.other _ _ (by omega) hk2 rfl
      refine ⟨_, run_endRound jump hl3, hl3, rfl, World.putObj_heap_same (Array.getElem?_eq_some_iff.1 hl3).1, (World.putObj_heap_other (by omega)).trans hk3, ?_⟩
      rw [hVs]
      exact (r1.trans (hr3.mono (by omega))).put hl3 rfl (by omega)
    rintro e a3 W3 hp
    cases e with
    | normal =>
      obtain ⟨W4, h1, h2, rfl, h4, h5, h6⟩ := fin none W3 hp.1
      exact ⟨_, _, h1, h6, .inl ⟨rfl, hI.from.putObj _ hp.2 (by omega) h2 rfl, h4, h5⟩⟩
    | ret =>
      obtain ⟨W4, h1, h2, rfl, h4, h5, h6⟩ := fin (some .ret) W3 hp.1
      exact ⟨_, _, h1, h6, .inr ⟨rfl, .ret, (hIx _).from.putObj (s := ()) _ hp.2 (by omega) h2 rfl, h4, h5⟩⟩
    | exit id =>
      obtain ⟨W4, h1, h2, rfl, h4, h5, h6⟩ := fin (some (.exit id)) W3 hp.1
      exact ⟨_, _, h1, h6, .inr ⟨rfl, .exit id, (hIx _).from.putObj (s := ()) _ hp.2 (by omega) h2 rfl, h4, h5⟩⟩
    | goto t =>
      obtain ⟨W4, h1, h2, rfl, h4, h5, h6⟩ := fin (some (.goto t)) W3 hp.1
      exact ⟨_, _, h1, h6, .inr ⟨rfl, .goto t, (hIx _).from.putObj (s := ()) _ hp.2 (by omega) h2 rfl, h4, h5⟩⟩
    | panic ch => exact hp.elim
    | outgrown => exact hp.elim
  · rintro e W2 ⟨⟨v, rfl⟩, (⟨hi, hl, hk⟩ | ⟨c, hc, hl, hk⟩)⟩
    · exact ⟨none, _, run_endLoop hl (by simp [rec']), hdone D _ (by omega) (hI.from.putObj _ hi (by omega) hl rfl) ((World.putObj_heap_other (by omega)).trans hk)⟩
    · exact ⟨some c, _, run_endLoop hl (by simp [rec']), hstop D c _ (by omega) ((hIx c).from.putObj (s := ()) _ hc (by omega) hl rfl) ((World.putObj_heap_other (by omega)).trans hk)⟩

#print axioms range_seqO
end Go
