/- Rows that a call has made, within a round; no program. -/
import Derived.Test.YtbnefehfkeonhaaPlanVisits
import Derived.Test.YtbnefehfkeonhaaLayoutUnpack
import Derived.OwnWalkIn
namespace Go.Proofs
open Go.RowKit
attribute [local go_sem] Oper.semAt_some

theorem wpListIn_make_full {F : Fence} {n : Nat} {P : Program} (w : World) {ops : Array Oper} {rest : List Oper} {o : Oper} {a : Act} {Q : Exit → Act → World → Prop}
    (hg : o.guard = none) (l c : Operand) (t : TypeId) (hop : o.op = Op.makeSlice t l c)
    (e : TypeId) (i : TypeInfo) (z : Value) (h1 : P.underlying t = some (.slice e)) (h2 : P.info? e = some i) (h3 : i.zero = some z) (h4 : i.size = 1)
    (C : Int) (m : Nat) (hl : a.eval l = .int .i64 C) (hc : a.eval c = .int .i64 C) (hC : C = (m : Int)) (b2 : i.bytes * m ≤ 281474976710656) (b3 : m ≤ maxLen)
    (hK : wpListIn F n P ops Q rest (a.put o.dst (.slice (some ⟨w.heap.size, 0, none⟩) m m)) (w.alloc (.cells (madeCells z.cells m) e))) :
    wpListIn F n P ops Q (o :: rest) a w := by
  refine wpListIn_plain hg fun K hK' => ?_
  subst hC
  have hb : (i.bytes : Int) * (m : Int) ≤ 281474976710656 := by
    have h : ((i.bytes * m : Nat) : Int) ≤ 281474976710656 := by omega
    rwa [Int.natCast_mul] at h
  have hr := run_make (P := P) w t e i z h1 h2 h3 .i64 .i64 (m : Int) (m : Int) (by omega) (Int.le_refl _) hb (by have h := b3; simp [maxLen] at h; omega)
  simp only [Int.toNat_natCast, h4, Nat.mul_one] at hr
  unfold Oper.wpIn
  refine ⟨?_, ?_⟩
  · simp [Oper.about, hop]
  · rw [Oper.semAt_plain F _ _ (by rw [hop]; intro c hc'; cases hc')]
    simp [execOp, hop, hl, hc, hr, Result.andThen]
    exact hK' _ _ hK
theorem owns_made (w : World) (base : Nat) (e : TypeId) (m : Nat) (hb : base ≤ w.heap.size) (hm : m ≤ maxLen) : (w.alloc (.cells (madeCells #[.int .i64 0] m) e)).ownsRow base e 1 (.slice (some ⟨w.heap.size, 0, none⟩) m m) m ((List.replicate m 0).map intV) := by
  refine ⟨by simp, .inr ⟨w.heap.size, m, _, rfl, hb, World.alloc_heap_new w _, Nat.le_refl _, hm, by simp [madeCells], ?_⟩⟩
  apply List.ext_getElem?
  intro j
  by_cases hj : j < m
  · simp [madeCells, hj, intV, Nat.mod_one]
  · rw [List.getElem?_eq_none (by simp [madeCells]; omega), List.getElem?_eq_none (by simp; omega)]
theorem grownBy_setAt (W : World) (b j : Nat) (v : Value) : W.grownBy (W.setCell ⟨b, j, none⟩ v) (some b) :=
  ⟨rfl, rfl, rfl, (KeepsWalks.setCell W _ v).size, fun k _ hk => Below.heap_setCell _ _ _ k (fun e => hk (by rw [e]))⟩
theorem boxed_setAt {W : World} {b g j : Nat} {t : TypeId} {u : Value} (h : Boxed W b t u) (hne : b ≠ g) (v : Value) : Boxed (W.setCell ⟨g, j, none⟩ v) b t u := h.kept (grownBy_setAt W g j v) (fun e => hne (by cases e; rfl))
theorem rf_setAt {T : Nat → TypeId → Bool} {B base c cap g : Nat} {X Y : World} {e : TypeId} {xs : List Value} (h : RF T B X Y) (hrow : Y.ownsRow base e 1 (.slice (some ⟨g, 0, none⟩) c cap) c xs) (hT : T g e = false) (j : Nat) (v : Value) : RF T B X (Y.setCell ⟨g, j, none⟩ v) := by
  refine h.grown (grownBy_setAt Y g j v) fun k ek o ho => ?_
  cases ek
  rcases hrow.2 with ⟨h0, _⟩ | ⟨g', cap', cur, he, hbg, hgb, _⟩
  · cases h0
  · simp only [Value.slice.injEq, Option.some.injEq, Addr.mk.injEq, and_true, true_and] at he
    obtain ⟨rfl, rfl⟩ := he
    rw [hgb] at ho; cases ho; exact ⟨_, _, _, rfl, hT⟩
theorem ownsRow_own {X Y : World} {base B' g c cap : Nat} {e : TypeId} {size : Nat} {k : Nat} {xs : List Value} (h2 : X.ownsRow base e size (.slice (some ⟨g, 0, none⟩) c cap) k xs) (hb : g < B') {row : Option Nat} (hg : X.grownBy Y row)
    (hr : ∀ r, row = some r → B' ≤ r ∧ ∃ o : Obj, X.heap[r]? = some o ∧ o.isCells = false) : Y.ownsRow base e size (.slice (some ⟨g, 0, none⟩) c cap) k xs :=
  h2.kept hg (.inr fun e' => by have := (hr g e'.symm).1; omega)
theorem owns_at {W : World} {base : Nat} {e : TypeId} {g c cap : Nat} {L : List Int} {x : Int} (h : W.ownsRow base e 1 (.slice (some ⟨g, 0, none⟩) c cap) c (L.map intV)) {j : Nat} (hj : j < c) (hx : L[j]? = some x) : W.cell? ⟨g, j, none⟩ = some (.int .i64 x) := by
  rw [World.ownsRow.cellAt h j (by omega)]
  simp [hx, intV]
end Go.Proofs
