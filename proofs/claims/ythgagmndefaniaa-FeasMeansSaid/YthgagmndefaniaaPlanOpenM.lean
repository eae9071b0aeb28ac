/- A plan that comes in: opened. No condition. -/
import Derived.Lib.SmallJoins
import Derived.Deep.Slices
import Derived.ChangeOld
import Derived.Carry
import Derived.OpenShut
import Derived.Test.YthgagmndefaniaaG07
namespace Go.Proofs.Ythgagmndefaniaa
open Go.RowKit Go.ChangeShapes Go.WideShapes Go.Plans
section
variable {H : Type} {enc : TypeId × Value → H} {w : World} {base : Nat} {spare : Nat → Bool} {held : Bool}
theorem pcells3 : Try.prog.cellsOf 3 = 1 := by kernel_rfl
theorem pgather {α : Type} {Q : Nat → α → Prop} : ∀ n, (∀ i, i < n → ∃ x, Q i x) → ∃ l : List α, l.length = n ∧ ∀ i x, l[i]? = some x → Q i x
  | 0, _ => ⟨[], rfl, fun i x h => by simp at h⟩
  | n + 1, h => by
    obtain ⟨l, hl, hq⟩ := pgather n (fun i hi => h i (by omega))
    obtain ⟨x, hx⟩ := h n (by omega)
    refine ⟨l ++ [x], by simp [hl], fun i y hy => ?_⟩
    by_cases hi : i < l.length
    · rw [List.getElem?_append_left hi] at hy; exact hq i y hy
    · have hlt := (List.getElem?_eq_some_iff.1 hy).1
      have e : i = l.length := by simp at hlt; omega
      subst e
      have e2 : x = y := by simpa using hy
      subst e2; rw [hl]; exact hx
theorem paddr_zero {a : Addr} {v : Value} (h : w.cell? (a.add 0) = some v) : ∃ b off, a = ⟨b, off, none⟩ ∧ b < w.heap.size := by
  obtain ⟨b, off, spot⟩ := a
  have h0 : (⟨b, off, spot⟩ : Addr).add 0 = ⟨b, off, spot⟩ := by simp [Addr.add]
  rw [h0] at h
  have hspot : spot = none := by simpa using World.cell?_spot h
  subst hspot
  refine ⟨b, off, rfl, ?_⟩
  rcases Nat.lt_or_ge b w.heap.size with hlt | hge
  · exact hlt
  · simp [World.cell?, Array.getElem?_eq_none hge] at h
theorem pmem_ints {n : Nat} {v : Value} {x : DataW H × List MemPlace} (h : DataW.trod enc Try.prog w base spare held n 23 [v] = some x) : ∃ l, HasInts w v l := by
  rcases Deep.open_slice1 Try.underlying23 pcells3 h with ⟨h0, _⟩ | ⟨a, len, cap, m, n', V, D, Pl, hcs, _, hl, hm, hmm, _, hi⟩
  · have e : v = .slice none 0 0 := by simpa using h0
    subst e
    exact ⟨[], .inl ⟨rfl, none, 0, rfl⟩⟩
  · have e : v = .slice (some a) len cap := by simpa using hcs
    subst e
    have hlm : len ≤ m := by rw [hmm]; split <;> omega
    by_cases h0l : len = 0
    · subst h0l
      exact ⟨[], .inl ⟨rfl, some a, cap, rfl⟩⟩
    obtain ⟨b, off, rfl, hb⟩ := paddr_zero (hi 0 (by omega)).1
    have key : ∀ i, i < len → ∃ z : Int, w.cell? ⟨b, off + i, none⟩ = some (.int .i64 z) := by
      intro i hil
      obtain ⟨h1, h2⟩ := hi i (by omega)
      obtain ⟨z, e0, _, _⟩ := DataW.trod_int Try.underlying3 h2
      simp only [List.cons.injEq, and_true] at e0
      rw [e0, Addr.add_lit] at h1
      exact ⟨z, h1⟩
    obtain ⟨l, hll, hq⟩ := pgather len key
    exact ⟨l, .inr ⟨b, off, cap, by rw [hll], by omega, hm, hb, hq⟩⟩
theorem pcells42 : Try.prog.cellsOf 23 = 1 := by kernel_rfl
theorem pcells22 : Try.prog.cellsOf 26 = 1 := by kernel_rfl
theorem pcells24 : Try.prog.cellsOf 28 = 1 := by kernel_rfl
theorem mem_rts {n : Nat} {v : Value} {x : DataW H × List MemPlace} (h : DataW.trod enc Try.prog w base spare held n 26 [v] = some x) : ∃ rr, HasRts w v rr := by
  rcases Deep.open_slice Try.underlying26 h with ⟨h0, _⟩ | ⟨a, len, cap, m, n', D, Pl, hcs, _, hl, hm, hmm, _, hi⟩
  · have e : v = .slice none 0 0 := by simpa using h0
    subst e
    exact ⟨[], .inl ⟨rfl, none, 0, rfl⟩⟩
  · have e : v = .slice (some a) len cap := by simpa using hcs
    subst e
    have hlm : len ≤ m := by rw [hmm]; split <;> omega
    rw [pcells42] at hi
    by_cases h0l : len = 0
    · subst h0l
      exact ⟨[], .inl ⟨rfl, some a, cap, rfl⟩⟩
    obtain ⟨b, off, rfl, hb⟩ : ∃ b off, a = ⟨b, off, none⟩ ∧ b < w.heap.size := by
      obtain ⟨cs', hc, ht⟩ := hi 0 (by omega)
      obtain ⟨_, hcl, hat⟩ := World.cells?_some hc
      match cs', hcl with
      | [u], _ =>
        have h0 := hat 0 (by omega)
        rw [Go.Deep.add_add] at h0
        exact paddr_zero (h0.trans rfl)
    have key : ∀ i, i < len → ∃ l : List Int, ∃ u, w.cell? ⟨b, off + i, none⟩ = some u ∧ HasInts w u l := by
      intro i hil
      obtain ⟨cs', hc, ht⟩ := hi i (by omega)
      obtain ⟨_, hcl, hat⟩ := World.cells?_some hc
      match cs', hcl with
      | [u], _ =>
        obtain ⟨l, hl'⟩ := pmem_ints ht
        have h0 := hat 0 (by omega)
        rw [Go.Deep.add_add, Addr.add_lit] at h0
        exact ⟨l, u, by simpa using h0, hl'⟩
    obtain ⟨rr, hll, hq⟩ := pgather len key
    exact ⟨rr, .inr ⟨b, off, cap, by rw [hll], by omega, hm, hb, hq⟩⟩
set_option maxRecDepth 100000 in
theorem open_plan {r : Reach} {b0 : Nat} {v : Value} {d : DataW H} {p : List MemPlace} (hv : Value.okWide Try.prog w r b0 28 v) (h : DataW.Trod enc Try.prog w base spare held 28 v d p) : ∃ (rr : Rts) (u : Value), v = planV u ∧ HasRts w u rr := by
  obtain ⟨cs, rfl, hsz⟩ := okWide_struct Try.underlying28 hv
  rw [pcells24] at hsz
  obtain ⟨n, hf0⟩ := h
  obtain ⟨ys, n', _, _, hcl, hyl, hf⟩ := DataW.trod_struct Try.underlying28 hf0
  obtain ⟨cl⟩ := cs
  match cl, hsz, ys, hyl with
  | [c0], _, [y0], _ =>
    have h0 : DataW.trod enc Try.prog w base spare held n' 26 (([c0].drop 0).take (Try.prog.cellsOf 26)) = some y0 := hf 0 _ rfl
    rw [pcells22] at h0
    simp only [List.drop_zero, List.take_succ_cons, List.take_zero] at h0
    obtain ⟨rr, hr⟩ := mem_rts h0
    exact ⟨rr, c0, rfl, hr⟩
end
#print axioms open_plan
end Go.Proofs.Ythgagmndefaniaa
