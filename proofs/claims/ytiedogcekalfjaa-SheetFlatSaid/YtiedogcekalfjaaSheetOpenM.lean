/- Numbers of 32 bits, and pairs of numbers, that come in: opened; the ways out. No condition. -/
import Derived.Test.YtiedogcekalfjaaLawSheetCommonM
import Derived.Test.YtiedogcekalfjaaLawSheetBackM
import Derived.Lib.SmallJoins
import Derived.Deep.Slices
import Derived.ChangeOld
import Derived.Carry
import Derived.OpenShut
namespace Go.Proofs.Ytiedogcekalfjaa
open Go.RowKit Go.ChangeShapes Go.WideShapes
section
variable {H : Type} {enc : TypeId × Value → H} {w : World} {base : Nat} {spare : Nat → Bool} {held : Bool}
theorem scells21 : Try.prog.cellsOf 21 = 1 := by kernel_rfl
theorem scells58 : Try.prog.cellsOf 58 = 2 := by kernel_rfl
theorem gatherS {α : Type} {Q : Nat → α → Prop} : ∀ n, (∀ i, i < n → ∃ x, Q i x) → ∃ l : List α, l.length = n ∧ ∀ i x, l[i]? = some x → Q i x
  | 0, _ => ⟨[], rfl, fun i x h => by simp at h⟩
  | n + 1, h => by
    obtain ⟨l, hl, hq⟩ := gatherS n (fun i hi => h i (by omega))
    obtain ⟨x, hx⟩ := h n (by omega)
    refine ⟨l ++ [x], by simp [hl], fun i y hy => ?_⟩
    by_cases hi : i < l.length
    · rw [List.getElem?_append_left hi] at hy; exact hq i y hy
    · have hlt := (List.getElem?_eq_some_iff.1 hy).1
      have e : i = l.length := by simp at hlt; omega
      subst e
      have e2 : x = y := by simpa using hy
      subst e2; rw [hl]; exact hx
theorem addr_zeroS {a : Addr} {v : Value} (h : w.cell? (a.add 0) = some v) : ∃ b off, a = ⟨b, off, none⟩ ∧ b < w.heap.size := by
  obtain ⟨b, off, spot⟩ := a
  have h0 : (⟨b, off, spot⟩ : Addr).add 0 = ⟨b, off, spot⟩ := by simp [Addr.add]
  rw [h0] at h
  have hspot : spot = none := by simpa using World.cell?_spot h
  subst hspot
  refine ⟨b, off, rfl, ?_⟩
  rcases Nat.lt_or_ge b w.heap.size with hlt | hge
  · exact hlt
  · simp [World.cell?, Array.getElem?_eq_none hge] at h
set_option maxRecDepth 100000 in
theorem smem_i32 {n : Nat} {v : Value} {x : DataW H × List MemPlace} (h : DataW.trod enc Try.prog w base spare held n 65 [v] = some x) : ∃ l, HasI32 w v l ∧ ∀ x ∈ l, -2147483648 ≤ x ∧ x ≤ 2147483647 := by
  rcases Deep.open_slice1 Try.underlying65 scells21 h with ⟨h0, _⟩ | ⟨a, len, cap, m, n', V, D, Pl, hcs, _, hl, hm, hmm, _, hi⟩
  · have e : v = .slice none 0 0 := by simpa using h0
    subst e
    exact ⟨[], ⟨none, 0, rfl, .inl rfl⟩, fun x hx => by cases hx⟩
  · have e : v = .slice (some a) len cap := by simpa using hcs
    subst e
    have hlm : len ≤ m := by rw [hmm]; split <;> omega
    by_cases h0l : len = 0
    · subst h0l
      exact ⟨[], ⟨some a, cap, rfl, .inl rfl⟩, fun x hx => by cases hx⟩
    obtain ⟨b, off, rfl, hb⟩ := addr_zeroS (hi 0 (by omega)).1
    have key : ∀ i, i < len → ∃ z : Int, w.cell? ⟨b, off + i, none⟩ = some (.int .i32 z) ∧ -2147483648 ≤ z ∧ z ≤ 2147483647 := by
      intro i hil
      obtain ⟨h1, h2⟩ := hi i (by omega)
      obtain ⟨z, e0, _, wz⟩ := DataW.trod_int Try.underlying21 h2
      simp only [List.cons.injEq, and_true] at e0
      rw [e0, Addr.add_lit] at h1
      simp only [Lit.wf, Bool.and_eq_true, decide_eq_true_eq] at wz
      exact ⟨z, h1, wz.1, wz.2⟩
    obtain ⟨l, hll, hq⟩ := gatherS len key
    refine ⟨l, ⟨some ⟨b, off, none⟩, cap, by rw [hll], .inr ⟨b, off, rfl, hb, fun i x hx => (hq i x hx).1⟩⟩, fun x hx => ?_⟩
    obtain ⟨i, hi'⟩ := List.getElem?_of_mem hx
    exact (hq i x hi').2
set_option maxRecDepth 100000 in
theorem smem_num {n : Nat} {cs : List Value} {x : DataW H × List MemPlace} (h : DataW.trod enc Try.prog w base spare held n 58 cs = some x) :
    ∃ m s : Int, cs = [.int .i64 m, .int .i64 s] := by
  obtain ⟨ys, n', _, _, hcl, hyl, hf⟩ := DataW.trod_struct Try.underlying58 h
  rw [scells58] at hcl
  match cs, hcl, ys, hyl with
  | [c0, c1], _, [y0, y1], _ =>
    have k0 : Try.prog.cellsOf 3 = 1 := by kernel_rfl
    have h0 : DataW.trod enc Try.prog w base spare held n' 3 (([c0, c1].drop 0).take (Try.prog.cellsOf 3)) = some y0 := hf 0 _ rfl
    have h1 : DataW.trod enc Try.prog w base spare held n' 3 (([c0, c1].drop 1).take (Try.prog.cellsOf 3)) = some y1 := hf 1 _ rfl
    rw [k0] at h0 h1
    obtain ⟨m, e0, _, w0⟩ := DataW.trod_int Try.underlying3 h0
    obtain ⟨q, e1, _, w1⟩ := DataW.trod_int Try.underlying3 h1
    simp only [List.drop_zero, List.drop_succ_cons, List.take_succ_cons, List.take_zero, List.cons.injEq, and_true] at e0 e1
    subst e0; subst e1
    exact ⟨m, q, rfl⟩
set_option maxRecDepth 100000 in
theorem smem_nums {n : Nat} {v : Value} {x : DataW H × List MemPlace} (h : DataW.trod enc Try.prog w base spare held n 45 [v] = some x) : ∃ l, HasPrs w v l := by
  rcases Deep.open_slice Try.underlying45 h with ⟨h0, _⟩ | ⟨a, len, cap, m, n', D, Pl, hcs, _, hl, hm, hmm, _, hi⟩
  · have e : v = .slice none 0 0 := by simpa using h0
    subst e
    exact ⟨[], none, 0, rfl, .inl rfl⟩
  · have e : v = .slice (some a) len cap := by simpa using hcs
    subst e
    have hlm : len ≤ m := by rw [hmm]; split <;> omega
    rw [scells58] at hi
    by_cases h0l : len = 0
    · subst h0l
      exact ⟨[], some a, cap, rfl, .inl rfl⟩
    obtain ⟨b, off, rfl, hb⟩ : ∃ b off, a = ⟨b, off, none⟩ ∧ b < w.heap.size := by
      obtain ⟨cs', hc, ht⟩ := hi 0 (by omega)
      obtain ⟨q, r, rfl⟩ := smem_num ht
      obtain ⟨_, _, hat⟩ := World.cells?_some hc
      have h0 := hat 0 (by omega)
      rw [Go.Deep.add_add] at h0
      exact addr_zeroS (h0.trans rfl)
    have key : ∀ i, i < len → ∃ p : Int × Int, w.cell? ⟨b, off + i * 2, none⟩ = some (.int .i64 p.1) ∧ w.cell? ⟨b, off + i * 2 + 1, none⟩ = some (.int .i64 p.2) := by
      intro i hil
      obtain ⟨cs', hc, ht⟩ := hi i (by omega)
      obtain ⟨q, r, rfl⟩ := smem_num ht
      obtain ⟨_, _, hat⟩ := World.cells?_some hc
      have h0 := hat 0 (by omega)
      have h1 := hat 1 (by omega)
      rw [Go.Deep.add_add, Addr.add_lit] at h0 h1
      exact ⟨(q, r), h0.trans rfl, by rw [Nat.add_assoc]; exact h1.trans rfl⟩
    obtain ⟨l, hll, hq⟩ := gatherS len key
    exact ⟨l, some ⟨b, off, none⟩, cap, by rw [hll], .inr ⟨b, off, rfl, by omega, hm, hb, fun i p hp => hq i p hp⟩⟩
theorem laidOut : laidOutB Try.prog = true := by kernel_rfl
theorem trod_blocks {t : TypeId} {v : Value} {d : DataW H} {p : List MemPlace} (h : DataW.Trod enc Try.prog w base spare held t v d p) : ∀ x ∈ p, x.block < w.heap.size := by
  obtain ⟨n, h⟩ := h
  exact DataW.trod_lt n _ _ _ h
set_option maxRecDepth 100000 in
theorem open_i32s {r : Reach} {b0 : Nat} {v : Value} {d : DataW H} {p : List MemPlace} (hv : Value.okWide Try.prog w r b0 65 v) (h : DataW.Trod enc Try.prog w base spare held 65 v d p) : ∃ l, HasI32 w v l ∧ ∀ x ∈ l, -2147483648 ≤ x ∧ x ≤ 2147483647 := by
  obtain ⟨n, h⟩ := h
  obtain ⟨a, len, cap, rfl⟩ := okWide_slice Try.underlying65 hv
  exact smem_i32 (v := .slice a len cap) h
set_option maxRecDepth 100000 in
theorem open_prs {r : Reach} {b0 : Nat} {v : Value} {d : DataW H} {p : List MemPlace} (hv : Value.okWide Try.prog w r b0 45 v) (h : DataW.Trod enc Try.prog w base spare held 45 v d p) : ∃ l, HasPrs w v l := by
  obtain ⟨n, h⟩ := h
  obtain ⟨a, len, cap, rfl⟩ := okWide_slice Try.underlying45 hv
  exact smem_nums (v := .slice a len cap) h
end
#print axioms open_i32s
#print axioms open_prs
end Go.Proofs.Ytiedogcekalfjaa
