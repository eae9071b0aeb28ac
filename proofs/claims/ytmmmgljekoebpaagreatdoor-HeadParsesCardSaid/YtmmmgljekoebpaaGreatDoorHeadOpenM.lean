/- A head that comes in. Conditions: what a row's condition says of it. -/
import Derived.Test.YtmmmgljekoebpaaGreatDoorG09
import Derived.SevenTiedAt
import Derived.WalkKit
import Derived.ProofKit
import Derived.OpenShut
import Derived.ShutString
import Derived.Carry
import Derived.ChangeOld
import Derived.Lib.SmallJoins
namespace Go.Proofs.YtmmmgljekoebpaaGreatDoor
open Go.RowKit Go.ChangeShapes Go.WideShapes Go.Hdr
section
variable {H : Type} {enc : TypeId × Value → H} {w : World} {base : Nat} {spare : Nat → Bool} {held : Bool}
theorem hcells : Tryz.prog.cellsOf 24 = 6 := by kernel_rfl
theorem hcells9 : Tryz.prog.cellsOf 9 = 1 := by kernel_rfl
theorem hcells3 : Tryz.prog.cellsOf 3 = 1 := by kernel_rfl
theorem hlaidOut : laidOutB Tryz.prog = true := by kernel_rfl
theorem htrod_blocks {t : TypeId} {v : Value} {d : DataW H} {p : List MemPlace} (h : DataW.Trod enc Tryz.prog w base spare held t v d p) : ∀ x ∈ p, x.block < w.heap.size := by
  obtain ⟨n, h⟩ := h
  exact DataW.trod_lt n _ _ _ h
set_option maxRecDepth 100000 in
theorem open_head {r : Reach} {b0 : Nat} {v : Value} {d : DataW H} {p : List MemPlace} (hv : Value.okWide Tryz.prog w r b0 24 v) (h : DataW.Trod enc Tryz.prog w base spare held 24 v d p) : ∃ x : Hd, v = hdV x ∧ x.name.size ≤ maxLen := by
  obtain ⟨cs, rfl, hsz⟩ := okWide_struct Tryz.underlying24 hv
  rw [hcells] at hsz
  obtain ⟨n, hf0⟩ := h
  obtain ⟨ys, n', _, _, hcl, hyl, hf⟩ := DataW.trod_struct Tryz.underlying24 hf0
  obtain ⟨cl⟩ := cs
  match cl, hsz, ys, hyl with
  | [c0, c1, c2, c3, c4, c5], _, [y0, y1, y2, y3, y4, y5], _ =>
    have h0 : DataW.trod enc Tryz.prog w base spare held n' 9 (([c0, c1, c2, c3, c4, c5].drop 0).take (Tryz.prog.cellsOf 9)) = some y0 := hf 0 _ rfl
    have h1 : DataW.trod enc Tryz.prog w base spare held n' 3 (([c0, c1, c2, c3, c4, c5].drop 1).take (Tryz.prog.cellsOf 3)) = some y1 := hf 1 _ rfl
    have h2 : DataW.trod enc Tryz.prog w base spare held n' 3 (([c0, c1, c2, c3, c4, c5].drop 2).take (Tryz.prog.cellsOf 3)) = some y2 := hf 2 _ rfl
    have h3 : DataW.trod enc Tryz.prog w base spare held n' 3 (([c0, c1, c2, c3, c4, c5].drop 3).take (Tryz.prog.cellsOf 3)) = some y3 := hf 3 _ rfl
    have h4 : DataW.trod enc Tryz.prog w base spare held n' 3 (([c0, c1, c2, c3, c4, c5].drop 4).take (Tryz.prog.cellsOf 3)) = some y4 := hf 4 _ rfl
    have h5 : DataW.trod enc Tryz.prog w base spare held n' 3 (([c0, c1, c2, c3, c4, c5].drop 5).take (Tryz.prog.cellsOf 3)) = some y5 := hf 5 _ rfl
    rw [hcells9] at h0
    rw [hcells3] at h1 h2 h3 h4 h5
    simp only [List.drop_zero, List.drop_succ_cons, List.take_succ_cons, List.take_zero] at h0 h1 h2 h3 h4 h5
    obtain ⟨s, e0, _, w0⟩ := DataW.trod_string Tryz.underlying9 h0
    obtain ⟨m1, e1, _, w1⟩ := DataW.trod_int Tryz.underlying3 h1
    obtain ⟨m2, e2, _, w2⟩ := DataW.trod_int Tryz.underlying3 h2
    obtain ⟨m3, e3, _, w3⟩ := DataW.trod_int Tryz.underlying3 h3
    obtain ⟨m4, e4, _, w4⟩ := DataW.trod_int Tryz.underlying3 h4
    obtain ⟨m5, e5, _, w5⟩ := DataW.trod_int Tryz.underlying3 h5
    simp only [List.cons.injEq, and_true] at e0 e1 e2 e3 e4 e5
    subst e0; subst e1; subst e2; subst e3; subst e4; subst e5
    exact ⟨⟨s, m1, m2, m3, m4, m5⟩, rfl, w0⟩
end
#print axioms open_head
end Go.Proofs.YtmmmgljekoebpaaGreatDoor
