/- Two lists of routes put together in a row of a call's own: steps of a region that draws. No program. -/
import Derived.Test.YthgagmndefaniaaG29
import Derived.Test.YthgagmndefaniaaG20
namespace Go
open Go.RowKit
attribute [local go_sem] Oper.semAt_some
/-- The cells of a slice that is appended, or nothing. -/
def NewsAt (W : World) (ao : Option Addr) (m : Nat) (news : List Value) : Prop := (m = 0 ∧ news = []) ∨ ∃ ad, ao = some ad ∧ ∀ j u, news[j]? = some u → W.cell? (ad.add j) = some u
theorem grownBy_refl (W : World) (row : Option Nat) : W.grownBy W row := ⟨rfl, rfl, rfl, Nat.le_refl _, fun _ _ _ => rfl⟩
theorem step_append_vals {P : Program} {w : World} {ops : Array Oper} {o : Oper} {a : Act} {K : Act → World → Prop} {Q : Exit → Act → World → Prop} {E : Prop} (hgd : o.guard = none) (s x : Operand) (t : TypeId)
    (ho : o.op = .call { callee := .builtin .append, args := #[s, x], argTypes := #[t, t] })
    (base : Nat) (e : TypeId) (i : TypeInfo) (z : Value) (size bytes : Nat) (ht : P.underlying t = some (.slice e)) (hi : P.info? e = some i) (hz : i.zero = some z)
    (hsize : i.size = size) (hby : i.bytes = bytes) (hzs : z.cells.size = size) (hsz : 0 < size)
    (v : Value) (n : Nat) (xs : List Value) (hs : a.eval s = v) (hown : w.ownsRow base e size v n xs)
    (ao : Option Addr) (m c : Nat) (news : List Value) (hx : a.eval x = .slice ao m c) (hl : news.length = m * size) (hnews : NewsAt w ao m news) (h1 : ∀ u ∈ news, u.oneCell' = true)
    (h63 : n + m ≤ maxLen) (hbytes : (n + m) * bytes ≤ 140737488355328) (hbase : base ≤ w.heap.size)
    (h : ∀ v' w', w'.ownsRow base e size v' (n + m) (xs ++ news) → w.grownBy w' v.ownBlock → K (a.put o.dst v') w') :
    if Region.wanted o (yielded ops a.tmps) = true then Oper.wp P o a w K Q else E := by
  rcases hnews with ⟨rfl, rfl⟩ | ⟨ad, rfl, hn⟩
  · have hw : Region.wanted o (yielded ops a.tmps) = true := by simp [Region.wanted, hgd]
    rw [if_pos hw]
    have hrun := run_append_nothing (P := P) (w := w) base t o.type e i size ht hi v n xs hown ao c
    unfold Oper.wp
    simp [execOp, ho, resolve, invoke, builtin, hs, hx, hrun, Result.andThen]
    exact h v w (by simpa using hown) (grownBy_refl _ _)
  · exact step_append_anyP hgd s x t ho base e i z size bytes ht hi hz hsize hby hzs hsz v n xs hs hown ad m c news hx hl hn h1 h63 hbytes hbase h
end Go
namespace Go.Proofs
open Go.RowKit Go.Plans
theorem gatherP {α : Type} {Q : Nat → α → Prop} : ∀ n, (∀ i, i < n → ∃ x, Q i x) → ∃ l : List α, l.length = n ∧ ∀ i x, l[i]? = some x → Q i x
  | 0, _ => ⟨[], rfl, fun i x h => by simp at h⟩
  | n + 1, h => by
    obtain ⟨l, hl, hq⟩ := gatherP n (fun i hi => h i (by omega))
    obtain ⟨x, hx⟩ := h n (by omega)
    refine ⟨l ++ [x], by simp [hl], fun i y hy => ?_⟩
    by_cases hi : i < l.length
    · rw [List.getElem?_append_left hi] at hy; exact hq i y hy
    · have hlt := (List.getElem?_eq_some_iff.1 hy).1
      have e : i = l.length := by simp at hlt; omega
      subst e
      have e2 : x = y := by simpa using hy
      subst e2; rw [hl]; exact hx
/-- Values that read as these lists, in a world and all that it grows into. -/
def ReadAs (w : World) (us : List Value) (rr : Rts) : Prop := us.length = rr.length ∧ ∀ (i : Nat) (l : List Int), rr[i]? = some l → ∃ u, us[i]? = some u ∧ HasInts w u l
theorem ReadAs.append {w : World} {us vs : List Value} {rr ss : Rts} (h : ReadAs w us rr) (k : ReadAs w vs ss) : ReadAs w (us ++ vs) (rr ++ ss) := by
  refine ⟨by simp [h.1, k.1], fun i l hi => ?_⟩
  by_cases hlt : i < rr.length
  · rw [List.getElem?_append_left hlt] at hi
    obtain ⟨u, h1, h2⟩ := h.2 i l hi
    exact ⟨u, by rw [List.getElem?_append_left (by rw [h.1]; exact hlt)]; exact h1, h2⟩
  · rw [List.getElem?_append_right (by omega)] at hi
    obtain ⟨u, h1, h2⟩ := k.2 _ l hi
    exact ⟨u, by rw [List.getElem?_append_right (by rw [h.1]; omega), h.1]; exact h1, h2⟩
theorem rts_news {w : World} {ao : Option Addr} {m c : Nat} {rr : Rts} (h : HasRts w (.slice ao m c) rr) : ∃ us, us.length = m ∧ (∀ u ∈ us, u.oneCell' = true) ∧ ReadAs w us rr ∧ ∀ W, Below w.heap.size w W → NewsAt W ao m us := by
  rcases h with ⟨rfl, ao', cap, e⟩ | ⟨b, off, cap, e, h2, h3, h4⟩
  · injection e with e1 e2 e3
    subst e2
    exact ⟨[], rfl, fun u hu => (by cases hu), ⟨rfl, fun i l hi => by simp at hi⟩, fun W _ => .inl ⟨rfl, rfl⟩⟩
  · injection e with e1 e2 e3
    subst e1; subst e2
    obtain ⟨us, hus, hq⟩ := gatherP (Q := fun i u => w.cell? ⟨b, off + i, none⟩ = some u ∧ ∃ l, rr[i]? = some l ∧ HasInts w u l) rr.length (fun i hi => by
      obtain ⟨u, k1, k2⟩ := h4.2 i rr[i] (List.getElem?_eq_getElem hi)
      exact ⟨u, k1, rr[i], List.getElem?_eq_getElem hi, k2⟩)
    refine ⟨us, hus, fun u hu => ?_, ⟨hus, fun i l hi => ?_⟩, fun W hW => .inr ⟨⟨b, off, none⟩, rfl, fun j u hj => ?_⟩⟩
    · obtain ⟨i, hi⟩ := List.getElem?_of_mem hu
      obtain ⟨_, l, _, k2⟩ := hq i u hi
      obtain ⟨a, cc, rfl⟩ := k2.len
      rfl
    · have hlt := (List.getElem?_eq_some_iff.1 hi).1
      obtain ⟨u, hu⟩ : ∃ u, us[i]? = some u := ⟨_, List.getElem?_eq_getElem (by omega)⟩
      obtain ⟨_, l', k1, k2⟩ := hq i u hu
      rw [hi] at k1
      cases k1
      exact ⟨u, hu, k2⟩
    · rw [Addr.add_lit]
      exact (hW.cell (p := ⟨b, off + j, none⟩) h4.1).trans (hq j u hj).1
theorem rts_of_read {w W : World} {base : Nat} {v : Value} {us : List Value} {mm : Rts} (h : W.ownsRow base 23 1 v mm.length us) (hv : ReadAs w us mm) (hb : Below w.heap.size w W) : HasRts W v mm := by
  rcases h.2 with ⟨rfl, h0⟩ | ⟨g, cap, cur, rfl, h1, h2, h3, h4, _⟩
  · exact .inl ⟨List.eq_nil_of_length_eq_zero h0, none, 0, rfl⟩
  · refine .inr ⟨g, 0, cap, rfl, h3, h4, (Array.getElem?_eq_some_iff.1 h2).1, fun i l hi => ?_⟩
    obtain ⟨u, k1, k2⟩ := hv.2 i l hi
    exact ⟨u, by rw [Nat.zero_add, World.ownsRow.cellAt h i (by have := (List.getElem?_eq_some_iff.1 hi).1; omega), k1], k2.next hb⟩
theorem rowS {W : World} {base g : Nat} (h : W.heap[g]? = some (.cells #[] 23)) (hA : base ≤ g) : W.ownsRow base 23 1 (.slice (some ⟨g, 0, none⟩) 0 0) 0 [] :=
  ⟨rfl, .inr ⟨g, 0, #[], rfl, hA, h, Nat.le_refl _, by unfold maxLen; omega, rfl, rfl⟩⟩
theorem own_ne_box {W : World} {base b n : Nat} {v x : Value} {xs : List Value} (h : W.ownsRow base 23 1 v n xs) (hb : Boxed W b 28 x) : v.ownBlock ≠ some b := by
  intro e
  rcases h.2 with ⟨rfl, _⟩ | ⟨g, cap, cur, rfl, _, hg, _⟩
  · cases e
  · have hgb : g = b := Option.some.inj e
    subst hgb
    rw [show W.heap[g]? = _ from hb] at hg
    cases hg
theorem box_grown {W W' : World} {base b n : Nat} {v x : Value} {xs : List Value} (hb : Boxed W b 28 x) (h : W.ownsRow base 23 1 v n xs) (hg : W.grownBy W' v.ownBlock) : Boxed W' b 28 x :=
  (hg.block b hb.lt (fun e => own_ne_box h hb e.symm)).trans hb
theorem row_below {W W0 W' : World} {A n : Nat} {v : Value} {xs : List Value} (hb : Below A W0 W) (hA : A ≤ W.heap.size) (h : W.ownsRow A 23 1 v n xs) (hg : W.grownBy W' v.ownBlock) : Below A W0 W' :=
  hb.grown hg hA (fun k e => (World.ownsRow.lt h k e).1)
theorem row_set {W : World} {A b n : Nat} {v x y : Value} {xs : List Value} (h : W.ownsRow A 23 1 v n xs) (hb : Boxed W b 28 x) : (W.setCell ⟨b, 0, none⟩ y).ownsRow A 23 1 v n xs :=
  h.kept (grownBy_setCell' W b y) (.inr (own_ne_box h hb))
#print axioms rts_news
end Go.Proofs
