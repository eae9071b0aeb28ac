/- A diagnostic, a list of them, and a list of such lists, that come in: opened and shut. No condition. -/
import Derived.Test.YtgapefkoemofcaaDoorAll
import Derived.Lib.SmallJoins
import Derived.Deep.Slices
import Derived.ChangeOld
import Derived.Carry
import Derived.OpenShut
namespace Go.Proofs.YtgapefkoemofcaaDoor
open Go.RowKit Go.ChangeShapes Go.WideShapes Go.Dg
section
variable {H : Type} {enc : TypeId × Value → H} {w : World} {base : Nat} {spare : Nat → Bool} {held : Bool}
theorem cells25 : Tryd.prog.cellsOf 25 = 2 := by kernel_rfl
theorem cells28 : Tryd.prog.cellsOf 28 = 1 := by kernel_rfl
theorem open_diag {r : Reach} {b0 : Nat} {v : Value} {d : DataW H} {p : List MemPlace} (hv : Value.okWide Tryd.prog w r b0 25 v) (h : DataW.Trod enc Tryd.prog w base spare held 25 v d p) :
    ∃ m s : Int, v = .agg #[.int .i64 m, .int .i64 s] ∧ d = .agg [.lit (.int .i64 m), .lit (.int .i64 s)] ∧ p = [] ∧ (Lit.int .i64 m).wf = true ∧ (Lit.int .i64 s).wf = true := by
  obtain ⟨c0, c1, y0, y1, n, rfl, rfl, rfl, hy0, hy1⟩ := Joins.open_agg2 Tryd.underlying25 (by kernel_rfl) cells25 hv h
  obtain ⟨m, e0, rfl, w0⟩ := DataW.trod_int Tryd.underlying3 hy0
  obtain ⟨s, e1, rfl, w1⟩ := DataW.trod_int Tryd.underlying23 hy1
  simp only [List.cons.injEq, and_true] at e0 e1
  subst e0; subst e1
  exact ⟨m, s, rfl, rfl, rfl, w0, w1⟩
theorem shut_diag {m s : Int} (wm : (Lit.int .i64 m).wf = true) (ws : (Lit.int .i64 s).wf = true) : DataW.Trod enc Tryd.prog w base spare held 25 (.agg #[.int .i64 m, .int .i64 s]) (.agg [.lit (.int .i64 m), .lit (.int .i64 s)]) [] := by
  obtain ⟨n0, h0⟩ := shut_int (enc := enc) (P := Tryd.prog) (w := w) (base := base) (spare := spare) (held := held) Tryd.underlying3 wm
  obtain ⟨n1, h1⟩ := shut_int (enc := enc) (P := Tryd.prog) (w := w) (base := base) (spare := spare) (held := held) Tryd.underlying23 ws
  exact Joins.shut_agg2 (y0 := (_, [])) (y1 := (_, [])) Tryd.underlying25 (by kernel_rfl) cells25 ⟨n0, h0⟩ ⟨n1, h1⟩
/-- The two cells of a diagnostic in memory. -/
theorem mem_diag {n : Nat} {cs : List Value} {x : DataW H × List MemPlace} (h : DataW.trod enc Tryd.prog w base spare held n 25 cs = some x) :
    ∃ m s : Int, cs = [.int .i64 m, .int .i64 s] ∧ (Lit.int .i64 m).wf = true ∧ (Lit.int .i64 s).wf = true := by
  obtain ⟨ys, n', _, _, hcl, hyl, hf⟩ := DataW.trod_struct Tryd.underlying25 h
  rw [cells25] at hcl
  match cs, hcl, ys, hyl with
  | [c0, c1], _, [y0, y1], _ =>
    have k0 : Tryd.prog.cellsOf 3 = 1 := by kernel_rfl
    have k1 : Tryd.prog.cellsOf 23 = 1 := by kernel_rfl
    have h0 : DataW.trod enc Tryd.prog w base spare held n' 3 (([c0, c1].drop 0).take (Tryd.prog.cellsOf 3)) = some y0 := hf 0 _ rfl
    have h1 : DataW.trod enc Tryd.prog w base spare held n' 23 (([c0, c1].drop 1).take (Tryd.prog.cellsOf 23)) = some y1 := hf 1 _ rfl
    rw [k0] at h0
    rw [k1] at h1
    obtain ⟨m, e0, _, w0⟩ := DataW.trod_int Tryd.underlying3 h0
    obtain ⟨q, e1, _, w1⟩ := DataW.trod_int Tryd.underlying23 h1
    simp only [List.drop_zero, List.drop_succ_cons, List.take_succ_cons, List.take_zero, List.cons.injEq, and_true] at e0 e1
    subst e0; subst e1
    exact ⟨m, q, rfl, w0, w1⟩
end
end Go.Proofs.YtgapefkoemofcaaDoor
