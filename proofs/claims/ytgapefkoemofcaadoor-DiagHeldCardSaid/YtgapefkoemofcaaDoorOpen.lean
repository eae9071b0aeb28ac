/- A diagnostic, a list of them, and a list of such lists, that come in: opened and shut. No condition. -/
import Derived.Test.YtgapefkoemofcaaDoorAll
import Derived.Lib.SmallJoins
import Derived.Deep.Slices
import Derived.ChangeOld
import Derived.Carry
import Derived.OpenShut
namespace Go.Proofs.YtgapefkoemofcaaDoor
open Go.RowKit Go.ChangeShapes Go.WideShapes Go.Dg
section
variable {H : Type} {enc : TypeId × Value → H} {w : World} {base : Nat} {spare : Nat → Bool} {held : Bool}
theorem cells25 : Tryd.prog.cellsOf 25 = 2 := by kernel_rfl
theorem cells28 : Tryd.prog.cellsOf 28 = 1 := by kernel_rfl
theorem open_diag {r : Reach} {b0 : Nat} {v : Value} {d : DataW H} {p : List MemPlace} (hv : Value.okWide Tryd.prog w r b0 25 v) (h : DataW.Trod enc Tryd.prog w base spare held 25 v d p) :
    ∃ m s : Int, v = .agg #[.int .i64 m, .int .i64 s] ∧ d = .agg [.lit (.int .i64 m), .lit (.int .i64 s)] ∧ p = [] ∧ (Lit.int .i64 m).wf = true ∧ (Lit.int .i64 s).wf = true := by
  obtain ⟨c0, c1, y0, y1, n, rfl, rfl, rfl, hy0, hy1⟩ := Joins.open_agg2 Tryd.underlying25 (by kernel_rfl) cells25 hv h
  obtain ⟨m, e0, rfl, w0⟩ := DataW.trod_int Tryd.underlying3 hy0
  obtain ⟨s, e1, rfl, w1⟩ := DataW.trod_int Tryd.underlying23 hy1
  simp only [List.cons.injEq, and_true] at e0 e1
  subst e0; subst e1
  exact ⟨m, s, rfl, rfl, rfl, w0, w1⟩
theorem shut_diag {m s : Int} (wm : (Lit.int .i64 m).wf = true) (ws : (Lit.int .i64 s).wf = true) : DataW.Trod enc Tryd.prog w base spare held 25 (.agg #[.int .i64 m, .int .i64 s]) (.agg [.lit (.int .i64 m), .lit (.int .i64 s)]) [] := by
  obtain ⟨n0, h0⟩ := shut_int (enc := enc) (P := Tryd.prog) (w := w) (base := base) (spare := spare) (held := held) Tryd.underlying3 wm
  obtain ⟨n1, h1⟩ := shut_int (enc := enc) (P := Tryd.prog) (w := w) (base := base) (spare := spare) (held := held) Tryd.underlying23 ws
  exact Joins.shut_agg2 (y0 := (_, [])) (y1 := (_, [])) Tryd.underlying25 (by kernel_rfl) cells25 ⟨n0, h0⟩ ⟨n1, h1⟩
/-- The two cells of a diagnostic in memory. -/
theorem mem_diag {n : Nat} {cs : List Value} {x : DataW H × List MemPlace} (h : DataW.trod enc Tryd.prog w base spare held n 25 cs = some x) :
    ∃ m s : Int, cs = [.int .i64 m, .int .i64 s] ∧ (Lit.int .i64 m).wf = true ∧ (Lit.int .i64 s).wf = true := by
  obtain ⟨ys, n', _, _, hcl, hyl, hf⟩ := DataW.trod_struct Tryd.underlying25 h
  rw [cells25] at hcl
  match cs, hcl, ys, hyl with
  | [c0, c1], _, [y0, y1], _ =>
    have k0 : Tryd.prog.cellsOf 3 = 1 := by kernel_rfl
    have k1 : Tryd.prog.cellsOf 23 = 1 := by kernel_rfl
    have h0 : DataW.trod enc Tryd.prog w base spare held n' 3 (([c0, c1].drop 0).take (Tryd.prog.cellsOf 3)) = some y0 := hf 0 _ rfl
    have h1 : DataW.trod enc Tryd.prog w base spare held n' 23 (([c0, c1].drop 1).take (Tryd.prog.cellsOf 23)) = some y1 := hf 1 _ rfl
    rw [k0] at h0
    rw [k1] at h1
    obtain ⟨m, e0, _, w0⟩ := DataW.trod_int Tryd.underlying3 h0
    obtain ⟨q, e1, _, w1⟩ := DataW.trod_int Tryd.underlying23 h1
    simp only [List.drop_zero, List.drop_succ_cons, List.take_succ_cons, List.take_zero, List.cons.injEq, and_true] at e0 e1
    subst e0; subst e1
    exact ⟨m, q, rfl, w0, w1⟩
theorem gather {α : Type} {Q : Nat → α → Prop} : ∀ n, (∀ i, i < n → ∃ x, Q i x) → ∃ l : List α, l.length = n ∧ ∀ i x, l[i]? = some x → Q i x
  | 0, _ => ⟨[], rfl, fun i x h => by simp at h⟩
  | n + 1, h => by
    obtain ⟨l, hl, hq⟩ := gather n (fun i hi => h i (by omega))
    obtain ⟨x, hx⟩ := h n (by omega)
    refine ⟨l ++ [x], by simp [hl], fun i y hy => ?_⟩
    by_cases hi : i < l.length
    · rw [List.getElem?_append_left hi] at hy; exact hq i y hy
    · have hlt := (List.getElem?_eq_some_iff.1 hy).1
      have e : i = l.length := by simp at hlt; omega
      subst e
      have e2 : x = y := by simpa using hy
      subst e2; rw [hl]; exact hx
theorem addr_zero {a : Addr} {v : Value} (h : w.cell? (a.add 0) = some v) : ∃ b off, a = ⟨b, off, none⟩ ∧ b < w.heap.size := by
  obtain ⟨b, off, spot⟩ := a
  have h0 : (⟨b, off, spot⟩ : Addr).add 0 = ⟨b, off, spot⟩ := by simp [Addr.add]
  rw [h0] at h
  have hspot : spot = none := by simpa using World.cell?_spot h
  subst hspot
  refine ⟨b, off, rfl, ?_⟩
  rcases Nat.lt_or_ge b w.heap.size with hlt | hge
  · exact hlt
  · simp [World.cell?, Array.getElem?_eq_none hge] at h
theorem mem_diags {n : Nat} {v : Value} {x : DataW H × List MemPlace} (h : DataW.trod enc Tryd.prog w base spare held n 28 [v] = some x) : ∃ l, HasDiags w v l := by
  rcases Deep.open_slice Tryd.underlying28 h with ⟨h0, _⟩ | ⟨a, len, cap, m, n', D, Pl, hcs, _, hl, hm, hmm, _, hi⟩
  · have e : v = .slice none 0 0 := by simpa using h0
    subst e
    exact ⟨[], .inl ⟨rfl, none, 0, rfl⟩⟩
  · have e : v = .slice (some a) len cap := by simpa using hcs
    subst e
    have hlm : len ≤ m := by rw [hmm]; split <;> omega
    rw [cells25] at hi
    by_cases h0l : len = 0
    · subst h0l
      exact ⟨[], .inl ⟨rfl, some a, cap, rfl⟩⟩
    obtain ⟨b, off, rfl, hb⟩ : ∃ b off, a = ⟨b, off, none⟩ ∧ b < w.heap.size := by
      obtain ⟨cs', hc, ht⟩ := hi 0 (by omega)
      obtain ⟨q, r, rfl, _, _⟩ := mem_diag ht
      obtain ⟨_, _, hat⟩ := World.cells?_some hc
      have h0 := hat 0 (by omega)
      rw [Go.Deep.add_add] at h0
      exact addr_zero (h0.trans rfl)
    have key : ∀ i, i < len → ∃ p : Mk, w.cell? ⟨b, off + i * 2, none⟩ = some (.int .i64 p.1) ∧ w.cell? ⟨b, off + i * 2 + 1, none⟩ = some (.int .i64 p.2) := by
      intro i hil
      obtain ⟨cs', hc, ht⟩ := hi i (by omega)
      obtain ⟨q, r, rfl, _, _⟩ := mem_diag ht
      obtain ⟨_, _, hat⟩ := World.cells?_some hc
      have h0 := hat 0 (by omega)
      have h1 := hat 1 (by omega)
      rw [Go.Deep.add_add, Addr.add_lit] at h0 h1
      exact ⟨(q, r), h0.trans rfl, by rw [Nat.add_assoc]; exact h1.trans rfl⟩
    obtain ⟨l, hll, hq⟩ := gather len key
    exact ⟨l, .inr ⟨b, off, cap, by rw [hll], by omega, hm, hb, fun i x y hxy => hq i (x, y) hxy⟩⟩
theorem mem_lists {n : Nat} {v : Value} {x : DataW H × List MemPlace} (h : DataW.trod enc Tryd.prog w base spare held n 22 [v] = some x) : ∃ ll, HasLists w v ll := by
  rcases Deep.open_slice Tryd.underlying22 h with ⟨h0, _⟩ | ⟨a, len, cap, m, n', D, Pl, hcs, _, hl, hm, hmm, _, hi⟩
  · have e : v = .slice none 0 0 := by simpa using h0
    subst e
    exact ⟨[], .inl ⟨rfl, none, 0, rfl⟩⟩
  · have e : v = .slice (some a) len cap := by simpa using hcs
    subst e
    have hlm : len ≤ m := by rw [hmm]; split <;> omega
    rw [cells28] at hi
    by_cases h0l : len = 0
    · subst h0l
      exact ⟨[], .inl ⟨rfl, some a, cap, rfl⟩⟩
    obtain ⟨b, off, rfl, hb⟩ : ∃ b off, a = ⟨b, off, none⟩ ∧ b < w.heap.size := by
      obtain ⟨cs', hc, ht⟩ := hi 0 (by omega)
      obtain ⟨_, hcl, hat⟩ := World.cells?_some hc
      match cs', hcl with
      | [u], _ =>
        have h0 := hat 0 (by omega)
        rw [Go.Deep.add_add] at h0
        exact addr_zero (h0.trans rfl)
    have key : ∀ i, i < len → ∃ l : List Mk, ∃ u, w.cell? ⟨b, off + i, none⟩ = some u ∧ HasDiags w u l := by
      intro i hil
      obtain ⟨cs', hc, ht⟩ := hi i (by omega)
      obtain ⟨_, hcl, hat⟩ := World.cells?_some hc
      match cs', hcl with
      | [u], _ =>
        obtain ⟨l, hl'⟩ := mem_diags ht
        have h0 := hat 0 (by omega)
        rw [Go.Deep.add_add, Addr.add_lit] at h0
        exact ⟨l, u, by simpa using h0, hl'⟩
    obtain ⟨ll, hll, hq⟩ := gather len key
    exact ⟨ll, .inr ⟨b, off, cap, by rw [hll], by omega, hm, hb, hq⟩⟩
theorem laidOut : laidOutB Tryd.prog = true := by kernel_rfl
theorem trod_blocks {t : TypeId} {v : Value} {d : DataW H} {p : List MemPlace} (h : DataW.Trod enc Tryd.prog w base spare held t v d p) : ∀ x ∈ p, x.block < w.heap.size := by
  obtain ⟨n, h⟩ := h
  exact DataW.trod_lt n _ _ _ h
theorem open_diags {r : Reach} {b0 : Nat} {v : Value} {d : DataW H} {p : List MemPlace} (hv : Value.okWide Tryd.prog w r b0 28 v) (h : DataW.Trod enc Tryd.prog w base spare held 28 v d p) : ∃ l, HasDiags w v l := by
  obtain ⟨n, h⟩ := h
  obtain ⟨a, len, cap, rfl⟩ := okWide_slice Tryd.underlying28 hv
  exact mem_diags (v := .slice a len cap) h
theorem open_lists {r : Reach} {b0 : Nat} {v : Value} {d : DataW H} {p : List MemPlace} (hv : Value.okWide Tryd.prog w r b0 22 v) (h : DataW.Trod enc Tryd.prog w base spare held 22 v d p) : ∃ ll, HasLists w v ll := by
  obtain ⟨n, h⟩ := h
  obtain ⟨a, len, cap, rfl⟩ := okWide_slice Tryd.underlying22 hv
  exact mem_lists (v := .slice a len cap) h
end
#print axioms open_lists
end Go.Proofs.YtgapefkoemofcaaDoor
