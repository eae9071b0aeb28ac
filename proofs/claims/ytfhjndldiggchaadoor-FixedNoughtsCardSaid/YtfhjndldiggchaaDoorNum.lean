/- A number that comes in, opened and shut. No condition. -/
import Derived.Test.YtfhjndldiggchaaDoorProg
import Derived.Lib.SmallJoins
namespace Go.Proofs.YtfhjndldiggchaaDoor
open Go.RowKit Go.ChangeShapes Go.WideShapes
variable {H : Type} {enc : TypeId × Value → H} {w : World} {base : Nat} {spare : Nat → Bool} {held : Bool}
theorem cells27 : Tryd.prog.cellsOf 27 = 2 := by kernel_rfl
theorem open_num {r : Reach} {b0 : Nat} {v : Value} {d : DataW H} {p : List MemPlace} (hv : Value.okWide Tryd.prog w r b0 27 v) (h : DataW.Trod enc Tryd.prog w base spare held 27 v d p) :
    ∃ m s : Int, v = .agg #[.int .i64 m, .int .i64 s] ∧ d = .agg [.lit (.int .i64 m), .lit (.int .i64 s)] ∧ p = [] ∧ (Lit.int .i64 m).wf = true ∧ (Lit.int .i64 s).wf = true := by
  obtain ⟨c0, c1, y0, y1, n, rfl, rfl, rfl, hy0, hy1⟩ := Joins.open_agg2 Tryd.underlying27 (by kernel_rfl) cells27 hv h
  obtain ⟨m, e0, rfl, w0⟩ := DataW.trod_int Tryd.underlying3 hy0
  obtain ⟨s, e1, rfl, w1⟩ := DataW.trod_int Tryd.underlying3 hy1
  simp only [List.cons.injEq, and_true] at e0 e1
  subst e0; subst e1
  exact ⟨m, s, rfl, rfl, rfl, w0, w1⟩
theorem shut_num {m s : Int} (wm : (Lit.int .i64 m).wf = true) (ws : (Lit.int .i64 s).wf = true) : DataW.Trod enc Tryd.prog w base spare held 27 (.agg #[.int .i64 m, .int .i64 s]) (.agg [.lit (.int .i64 m), .lit (.int .i64 s)]) [] := by
  obtain ⟨n0, h0⟩ := shut_int (enc := enc) (P := Tryd.prog) (w := w) (base := base) (spare := spare) (held := held) Tryd.underlying3 wm
  obtain ⟨n1, h1⟩ := shut_int (enc := enc) (P := Tryd.prog) (w := w) (base := base) (spare := spare) (held := held) Tryd.underlying3 ws
  exact Joins.shut_agg2 (y0 := (_, [])) (y1 := (_, [])) Tryd.underlying27 (by kernel_rfl) cells27 ⟨n0, h0⟩ ⟨n1, h1⟩
#print axioms open_num
#print axioms shut_num
end Go.Proofs.YtfhjndldiggchaaDoor
