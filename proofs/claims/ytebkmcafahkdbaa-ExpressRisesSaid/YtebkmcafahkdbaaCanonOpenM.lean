/- An instance that comes in: opened. No condition. -/
import Derived.Test.YtebkmcafahkdbaaG04
import Derived.Lib.SmallJoins
import Derived.Deep.Slices
import Derived.ChangeOld
import Derived.Carry
import Derived.OpenShut
namespace Go.Proofs.Ytebkmcafahkdbaa
open Go.RowKit Go.ChangeShapes Go.WideShapes Go.Canon
section
variable {H : Type} {enc : TypeId × Value → H} {w : World} {base : Nat} {spare : Nat → Bool} {held : Bool}
theorem cells3 : Try.prog.cellsOf 3 = 1 := by kernel_rfl
theorem cells9 : Try.prog.cellsOf 9 = 1 := by kernel_rfl
theorem cells22 : Try.prog.cellsOf 22 = 1 := by kernel_rfl
theorem cells23 : Try.prog.cellsOf 23 = 1 := by kernel_rfl
theorem cells46 : Try.prog.cellsOf 40 = 7 := by kernel_rfl
theorem cells25 : Try.prog.cellsOf 25 = 8 := by kernel_rfl
theorem gather {α : Type} {Q : Nat → α → Prop} : ∀ n, (∀ i, i < n → ∃ x, Q i x) → ∃ l : List α, l.length = n ∧ ∀ i x, l[i]? = some x → Q i x
  | 0, _ => ⟨[], rfl, fun i x h => by simp at h⟩
  | n + 1, h => by
    obtain ⟨l, hl, hq⟩ := gather n (fun i hi => h i (by omega))
    obtain ⟨x, hx⟩ := h n (by omega)
    refine ⟨l ++ [x], by simp [hl], fun i y hy => ?_⟩
    by_cases hi : i < l.length
    · rw [List.getElem?_append_left hi] at hy; exact hq i y hy
    · have hlt := (List.getElem?_eq_some_iff.1 hy).1
      have e : i = l.length := by simp at hlt; omega
      subst e
      have e2 : x = y := by simpa using hy
      subst e2; rw [hl]; exact hx
theorem addr_zero {a : Addr} {v : Value} (h : w.cell? (a.add 0) = some v) : ∃ b off, a = ⟨b, off, none⟩ ∧ b < w.heap.size := by
  obtain ⟨b, off, spot⟩ := a
  have h0 : (⟨b, off, spot⟩ : Addr).add 0 = ⟨b, off, spot⟩ := by simp [Addr.add]
  rw [h0] at h
  have hspot : spot = none := by simpa using World.cell?_spot h
  subst hspot
  refine ⟨b, off, rfl, ?_⟩
  rcases Nat.lt_or_ge b w.heap.size with hlt | hge
  · exact hlt
  · simp [World.cell?, Array.getElem?_eq_none hge] at h
set_option maxRecDepth 100000 in
theorem mem_ints {n : Nat} {v : Value} {x : DataW H × List MemPlace} (h : DataW.trod enc Try.prog w base spare held n 23 [v] = some x) : ∃ l, HasNums w v l := by
  rcases Deep.open_slice1 Try.underlying23 cells3 h with ⟨h0, _⟩ | ⟨a, len, cap, m, n', V, D, Pl, hcs, _, hl, hm, hmm, _, hi⟩
  · have e : v = .slice none 0 0 := by simpa using h0
    subst e
    exact ⟨[], .inl ⟨rfl, none, 0, rfl⟩⟩
  · have e : v = .slice (some a) len cap := by simpa using hcs
    subst e
    have hlm : len ≤ m := by rw [hmm]; split <;> omega
    by_cases h0l : len = 0
    · subst h0l
      exact ⟨[], .inl ⟨rfl, some a, cap, rfl⟩⟩
    obtain ⟨b, off, rfl, hb⟩ := addr_zero (hi 0 (by omega)).1
    have key : ∀ i, i < len → ∃ z : Int, w.cell? ⟨b, off + i, none⟩ = some (.int .i64 z) := by
      intro i hil
      obtain ⟨h1, h2⟩ := hi i (by omega)
      obtain ⟨z, e0, _, _⟩ := DataW.trod_int Try.underlying3 h2
      simp only [List.cons.injEq, and_true] at e0
      rw [e0, Addr.add_lit] at h1
      exact ⟨z, h1⟩
    obtain ⟨l, hll, hq⟩ := gather len key
    exact ⟨l, .inr ⟨b, off, cap, by rw [hll], by omega, hm, hb, hq⟩⟩
set_option maxRecDepth 100000 in
/-- The seven cells of a node in memory. -/
theorem mem_node {n : Nat} {cs : List Value} {x : DataW H × List MemPlace} (h : DataW.trod enc Try.prog w base spare held n 40 cs = some x) : ∃ d : Nd, cs = ndC d ∧ In64 d := by
  obtain ⟨ys, n', _, _, hcl, hyl, hf⟩ := DataW.trod_struct Try.underlying40 h
  rw [cells46] at hcl
  match cs, hcl, ys, hyl with
  | [c0, c1, c2, c3, c4, c5, c6], _, [y0, y1, y2, y3, y4, y5, y6], _ =>
    have h0 : DataW.trod enc Try.prog w base spare held n' 3 (([c0, c1, c2, c3, c4, c5, c6].drop 0).take (Try.prog.cellsOf 3)) = some y0 := hf 0 _ rfl
    have h1 : DataW.trod enc Try.prog w base spare held n' 3 (([c0, c1, c2, c3, c4, c5, c6].drop 1).take (Try.prog.cellsOf 3)) = some y1 := hf 1 _ rfl
    have h2 : DataW.trod enc Try.prog w base spare held n' 3 (([c0, c1, c2, c3, c4, c5, c6].drop 2).take (Try.prog.cellsOf 3)) = some y2 := hf 2 _ rfl
    have h3 : DataW.trod enc Try.prog w base spare held n' 3 (([c0, c1, c2, c3, c4, c5, c6].drop 3).take (Try.prog.cellsOf 3)) = some y3 := hf 3 _ rfl
    have h4 : DataW.trod enc Try.prog w base spare held n' 3 (([c0, c1, c2, c3, c4, c5, c6].drop 4).take (Try.prog.cellsOf 3)) = some y4 := hf 4 _ rfl
    have h5 : DataW.trod enc Try.prog w base spare held n' 3 (([c0, c1, c2, c3, c4, c5, c6].drop 5).take (Try.prog.cellsOf 3)) = some y5 := hf 5 _ rfl
    have h6 : DataW.trod enc Try.prog w base spare held n' 3 (([c0, c1, c2, c3, c4, c5, c6].drop 6).take (Try.prog.cellsOf 3)) = some y6 := hf 6 _ rfl
    rw [cells3] at h0 h1 h2 h3 h4 h5 h6
    obtain ⟨m0, e0, _, w0⟩ := DataW.trod_int Try.underlying3 h0
    obtain ⟨m1, e1, _, w1⟩ := DataW.trod_int Try.underlying3 h1
    obtain ⟨m2, e2, _, w2⟩ := DataW.trod_int Try.underlying3 h2
    obtain ⟨m3, e3, _, w3⟩ := DataW.trod_int Try.underlying3 h3
    obtain ⟨m4, e4, _, w4⟩ := DataW.trod_int Try.underlying3 h4
    obtain ⟨m5, e5, _, w5⟩ := DataW.trod_int Try.underlying3 h5
    obtain ⟨m6, e6, _, w6⟩ := DataW.trod_int Try.underlying3 h6
    simp only [List.drop_zero, List.drop_succ_cons, List.take_succ_cons, List.take_zero, List.cons.injEq, and_true] at e0 e1 e2 e3 e4 e5 e6
    subst e0; subst e1; subst e2; subst e3; subst e4; subst e5; subst e6
    refine ⟨⟨m0, m1, m2, m3, m4, m5, m6⟩, rfl, ?_⟩
    simp only [Lit.wf, Bool.and_eq_true, decide_eq_true_eq] at w0 w1
    exact ⟨w0, w1⟩
set_option maxRecDepth 100000 in
theorem mem_nodes {n : Nat} {v : Value} {x : DataW H × List MemPlace} (h : DataW.trod enc Try.prog w base spare held n 22 [v] = some x) : ∃ l, HasNodes w v l ∧ ∀ d ∈ l, In64 d := by
  rcases Deep.open_slice Try.underlying22 h with ⟨h0, _⟩ | ⟨a, len, cap, m, n', D, Pl, hcs, _, hl, hm, hmm, _, hi⟩
  · have e : v = .slice none 0 0 := by simpa using h0
    subst e
    exact ⟨[], .inl ⟨rfl, none, 0, rfl⟩, fun d hd => by cases hd⟩
  · have e : v = .slice (some a) len cap := by simpa using hcs
    subst e
    have hlm : len ≤ m := by rw [hmm]; split <;> omega
    rw [cells46] at hi
    by_cases h0l : len = 0
    · subst h0l
      exact ⟨[], .inl ⟨rfl, some a, cap, rfl⟩, fun d hd => by cases hd⟩
    obtain ⟨b, off, rfl, hb⟩ : ∃ b off, a = ⟨b, off, none⟩ ∧ b < w.heap.size := by
      obtain ⟨cs', hc, ht⟩ := hi 0 (by omega)
      obtain ⟨d, rfl, _⟩ := mem_node ht
      obtain ⟨_, _, hat⟩ := World.cells?_some hc
      have h0 := hat 0 (by omega)
      rw [Go.Deep.add_add] at h0
      exact addr_zero (h0.trans rfl)
    have key : ∀ i, i < len → ∃ d : Nd, NdAt w b (off + i * 7) d ∧ In64 d := by
      intro i hil
      obtain ⟨cs', hc, ht⟩ := hi i (by omega)
      obtain ⟨d, rfl, hw⟩ := mem_node ht
      obtain ⟨_, _, hat⟩ := World.cells?_some hc
      have h0 := hat 0 (by omega)
      have h1 := hat 1 (by omega)
      have h2 := hat 2 (by omega)
      have h3 := hat 3 (by omega)
      have h4 := hat 4 (by omega)
      have h5 := hat 5 (by omega)
      have h6 := hat 6 (by omega)
      rw [Go.Deep.add_add, Addr.add_lit] at h0 h1 h2 h3 h4 h5 h6
      exact ⟨d, ⟨h0.trans rfl, by rw [Nat.add_assoc]; exact h1.trans rfl, by rw [Nat.add_assoc]; exact h2.trans rfl, by rw [Nat.add_assoc]; exact h3.trans rfl, by rw [Nat.add_assoc]; exact h4.trans rfl, by rw [Nat.add_assoc]; exact h5.trans rfl, by rw [Nat.add_assoc]; exact h6.trans rfl⟩, hw⟩
    obtain ⟨l, hll, hq⟩ := gather len key
    refine ⟨l, .inr ⟨b, off, cap, by rw [hll], by omega, hm, hb, fun i d hd => (hq i d hd).1⟩, fun d hd => ?_⟩
    obtain ⟨i, hi'⟩ := List.getElem?_of_mem hd
    exact (hq i d hi').2
theorem laidOut : laidOutB Try.prog = true := by kernel_rfl
theorem trod_blocks {t : TypeId} {v : Value} {d : DataW H} {p : List MemPlace} (h : DataW.Trod enc Try.prog w base spare held t v d p) : ∀ x ∈ p, x.block < w.heap.size := by
  obtain ⟨n, h⟩ := h
  exact DataW.trod_lt n _ _ _ h
set_option maxRecDepth 100000 in
theorem open_ins {r : Reach} {b0 : Nat} {v : Value} {d : DataW H} {p : List MemPlace} (hv : Value.okWide Try.prog w r b0 25 v) (h : DataW.Trod enc Try.prog w base spare held 25 v d p) : ∃ (x : Ins) (vn vm : Value), v = insV x vn vm ∧ HasIns w vn vm x ∧ (∀ d ∈ x.nodes, In64 d) ∧ x.name.size ≤ maxLen := by
  obtain ⟨cs, rfl, hsz⟩ := okWide_struct Try.underlying25 hv
  rw [cells25] at hsz
  obtain ⟨n, hf0⟩ := h
  obtain ⟨ys, n', _, _, hcl, hyl, hf⟩ := DataW.trod_struct Try.underlying25 hf0
  obtain ⟨cl⟩ := cs
  match cl, hsz, ys, hyl with
  | [c0, c1, c2, c3, c4, c5, c6, c7], _, [y0, y1, y2, y3, y4, y5, y6, y7], _ =>
    have h0 : DataW.trod enc Try.prog w base spare held n' 9 (([c0, c1, c2, c3, c4, c5, c6, c7].drop 0).take (Try.prog.cellsOf 9)) = some y0 := hf 0 _ rfl
    have h1 : DataW.trod enc Try.prog w base spare held n' 3 (([c0, c1, c2, c3, c4, c5, c6, c7].drop 1).take (Try.prog.cellsOf 3)) = some y1 := hf 1 _ rfl
    have h2 : DataW.trod enc Try.prog w base spare held n' 3 (([c0, c1, c2, c3, c4, c5, c6, c7].drop 2).take (Try.prog.cellsOf 3)) = some y2 := hf 2 _ rfl
    have h3 : DataW.trod enc Try.prog w base spare held n' 3 (([c0, c1, c2, c3, c4, c5, c6, c7].drop 3).take (Try.prog.cellsOf 3)) = some y3 := hf 3 _ rfl
    have h4 : DataW.trod enc Try.prog w base spare held n' 3 (([c0, c1, c2, c3, c4, c5, c6, c7].drop 4).take (Try.prog.cellsOf 3)) = some y4 := hf 4 _ rfl
    have h5 : DataW.trod enc Try.prog w base spare held n' 3 (([c0, c1, c2, c3, c4, c5, c6, c7].drop 5).take (Try.prog.cellsOf 3)) = some y5 := hf 5 _ rfl
    have h6 : DataW.trod enc Try.prog w base spare held n' 22 (([c0, c1, c2, c3, c4, c5, c6, c7].drop 6).take (Try.prog.cellsOf 22)) = some y6 := hf 6 _ rfl
    have h7 : DataW.trod enc Try.prog w base spare held n' 23 (([c0, c1, c2, c3, c4, c5, c6, c7].drop 7).take (Try.prog.cellsOf 23)) = some y7 := hf 7 _ rfl
    rw [cells9] at h0
    rw [cells3] at h1 h2 h3 h4 h5
    rw [cells22] at h6
    rw [cells23] at h7
    simp only [List.drop_zero, List.drop_succ_cons, List.take_succ_cons, List.take_zero] at h0 h1 h2 h3 h4 h5 h6 h7
    obtain ⟨s, e0, _, w0⟩ := DataW.trod_string Try.underlying9 h0
    obtain ⟨m1, e1, _, w1⟩ := DataW.trod_int Try.underlying3 h1
    obtain ⟨m2, e2, _, w2⟩ := DataW.trod_int Try.underlying3 h2
    obtain ⟨m3, e3, _, w3⟩ := DataW.trod_int Try.underlying3 h3
    obtain ⟨m4, e4, _, w4⟩ := DataW.trod_int Try.underlying3 h4
    obtain ⟨m5, e5, _, w5⟩ := DataW.trod_int Try.underlying3 h5
    simp only [List.cons.injEq, and_true] at e0 e1 e2 e3 e4 e5
    subst e0; subst e1; subst e2; subst e3; subst e4; subst e5
    obtain ⟨l, hl, hl64⟩ := mem_nodes h6
    obtain ⟨t, ht⟩ := mem_ints h7
    exact ⟨⟨s, m1, m2, m3, m4, m5, l, t⟩, c6, c7, rfl, ⟨hl, ht⟩, hl64, w0⟩
end
#print axioms open_ins
end Go.Proofs.Ytebkmcafahkdbaa
