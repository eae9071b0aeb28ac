/- A plan that comes in: opened. No condition. -/
import Derived.Test.YtbnefehfkeonhaaIntsOpen
import Derived.Test.YtbnefehfkeonhaaPlanMem
namespace Go.Proofs.Ytbnefehfkeonhaa
open Go.RowKit Go.ChangeShapes Go.WideShapes Go.Plans
section
variable {H : Type} {enc : TypeId × Value → H} {w : World} {base : Nat} {spare : Nat → Bool} {held : Bool}
theorem cells42 : Try.prog.cellsOf 42 = 1 := by kernel_rfl
theorem cells22 : Try.prog.cellsOf 22 = 1 := by kernel_rfl
theorem cells24 : Try.prog.cellsOf 24 = 1 := by kernel_rfl
theorem mem_rts {n : Nat} {v : Value} {x : DataW H × List MemPlace} (h : DataW.trod enc Try.prog w base spare held n 22 [v] = some x) : ∃ rr, HasRts w v rr := by
  rcases Deep.open_slice Try.underlying22 h with ⟨h0, _⟩ | ⟨a, len, cap, m, n', D, Pl, hcs, _, hl, hm, hmm, _, hi⟩
  · have e : v = .slice none 0 0 := by simpa using h0
    subst e
    exact ⟨[], .inl ⟨rfl, none, 0, rfl⟩⟩
  · have e : v = .slice (some a) len cap := by simpa using hcs
    subst e
    have hlm : len ≤ m := by rw [hmm]; split <;> omega
    rw [cells42] at hi
    by_cases h0l : len = 0
    · subst h0l
      exact ⟨[], .inl ⟨rfl, some a, cap, rfl⟩⟩
    obtain ⟨b, off, rfl, hb⟩ : ∃ b off, a = ⟨b, off, none⟩ ∧ b < w.heap.size := by
      obtain ⟨cs', hc, ht⟩ := hi 0 (by omega)
      obtain ⟨_, hcl, hat⟩ := World.cells?_some hc
      match cs', hcl with
      | [u], _ =>
        have h0 := hat 0 (by omega)
        rw [Go.Deep.add_add] at h0
        exact addr_zeroI (h0.trans rfl)
    have key : ∀ i, i < len → ∃ l : List Int, ∃ u, w.cell? ⟨b, off + i, none⟩ = some u ∧ HasInts w u l := by
      intro i hil
      obtain ⟨cs', hc, ht⟩ := hi i (by omega)
      obtain ⟨_, hcl, hat⟩ := World.cells?_some hc
      match cs', hcl with
      | [u], _ =>
        obtain ⟨l, hl'⟩ := mem_ints ht
        have h0 := hat 0 (by omega)
        rw [Go.Deep.add_add, Addr.add_lit] at h0
        exact ⟨l, u, by simpa using h0, hl'⟩
    obtain ⟨rr, hll, hq⟩ := gatherI len key
    exact ⟨rr, .inr ⟨b, off, cap, by rw [hll], by omega, hm, hb, hq⟩⟩
theorem open_plan {r : Reach} {b0 : Nat} {v : Value} {d : DataW H} {p : List MemPlace} (hv : Value.okWide Try.prog w r b0 24 v) (h : DataW.Trod enc Try.prog w base spare held 24 v d p) : ∃ (rr : Rts) (u : Value), v = planV u ∧ HasRts w u rr := by
  obtain ⟨cs, rfl, hsz⟩ := okWide_struct Try.underlying24 hv
  rw [cells24] at hsz
  obtain ⟨n, hf0⟩ := h
  obtain ⟨ys, n', _, _, hcl, hyl, hf⟩ := DataW.trod_struct Try.underlying24 hf0
  obtain ⟨cl⟩ := cs
  match cl, hsz, ys, hyl with
  | [c0], _, [y0], _ =>
    have h0 : DataW.trod enc Try.prog w base spare held n' 22 (([c0].drop 0).take (Try.prog.cellsOf 22)) = some y0 := hf 0 _ rfl
    rw [cells22] at h0
    simp only [List.drop_zero, List.take_succ_cons, List.take_zero] at h0
    obtain ⟨rr, hr⟩ := mem_rts h0
    exact ⟨rr, c0, rfl, hr⟩
end
#print axioms open_plan
end Go.Proofs.Ytbnefehfkeonhaa
