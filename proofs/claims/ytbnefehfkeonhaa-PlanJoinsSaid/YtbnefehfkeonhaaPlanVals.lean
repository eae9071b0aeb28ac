/- Rows of slices that a call has made: what they read as; slices.Clone at ints. Conditions: lists of at most two million. -/
import Derived.Test.YtbnefehfkeonhaaPlanMem
import Derived.Test.YtbnefehfkeonhaaLayoutUnpack
import Derived.Test.YtbnefehfkeonhaaShelf
import Derived.RangeFuncBox
namespace Go.Proofs
open Go.RowKit Go.Plans
attribute [local go_sem] Oper.semAt_some

theorem Try.info42 : (Try.prog.info? 42).map (fun i => (i.zero, i.size, i.bytes)) = some (some (.slice none 0 0), 1, 24) := by kernel_rfl
/-- A list's own row, not empty. -/
def RowAt (W : World) (u : Value) (l : List Int) : Prop := ∃ b cap, u = .slice (some ⟨b, 0, none⟩) l.length cap ∧ l.length ≤ cap ∧ cap ≤ maxLen ∧ 0 < l.length ∧ IntAt W b 0 l
/-- The values read as these lists. -/
def ValsR (W : World) (us : List Value) (mm : Rts) : Prop := us.length = mm.length ∧ ∀ (i : Nat) (l : List Int), mm[i]? = some l → ∃ u, us[i]? = some u ∧ RowAt W u l
theorem RowAt.next {W W' : World} {u : Value} {l : List Int} (h : RowAt W u l) (hb : Below W.heap.size W W') : RowAt W' u l := by
  obtain ⟨b, cap, h1, h2, h3, h4, h5⟩ := h
  exact ⟨b, cap, h1, h2, h3, h4, h5.next hb⟩
theorem RowAt.ints {W : World} {u : Value} {l : List Int} (h : RowAt W u l) : HasInts W u l := by
  obtain ⟨b, cap, h1, h2, h3, h4, h5⟩ := h
  exact .inr ⟨b, 0, cap, h1, h2, h3, h5⟩
theorem RowAt.one {W : World} {u : Value} {l : List Int} (h : RowAt W u l) : u.oneCell' = true := by
  obtain ⟨b, cap, rfl, _⟩ := h; rfl
theorem ValsR.nil (W : World) : ValsR W [] [] := ⟨rfl, fun i l h => by simp at h⟩
theorem ValsR.next {W W' : World} {us : List Value} {mm : Rts} (h : ValsR W us mm) (hb : Below W.heap.size W W') : ValsR W' us mm :=
  ⟨h.1, fun i l hi => by obtain ⟨u, h1, h2⟩ := h.2 i l hi; exact ⟨u, h1, h2.next hb⟩⟩
theorem ValsR.snoc {W : World} {us : List Value} {mm : Rts} {u : Value} {l : List Int} (h : ValsR W us mm) (hu : RowAt W u l) : ValsR W (us ++ [u]) (mm ++ [l]) := by
  refine ⟨by simp [h.1], fun i r hi => ?_⟩
  by_cases hlt : i < mm.length
  · rw [List.getElem?_append_left hlt] at hi
    obtain ⟨v, h1, h2⟩ := h.2 i r hi
    exact ⟨v, by rw [List.getElem?_append_left (by rw [h.1]; exact hlt)]; exact h1, h2⟩
  · rw [List.getElem?_append_right (by omega)] at hi
    have hlen := (List.getElem?_eq_some_iff.1 hi).1
    have e0 : i = mm.length := by simp at hlen; omega
    subst e0
    simp only [Nat.sub_self, List.getElem?_cons_zero, Option.some.injEq] at hi
    subst hi
    exact ⟨u, by rw [List.getElem?_append_right (by rw [h.1]; exact Nat.le_refl _), h.1]; simp, hu⟩
/-- An append onto the row of slices leaves what these read as. -/
theorem ValsR.grown {W W' : World} {base : Nat} {e : TypeId} {v : Value} {us : List Value} {mm : Rts} (h : ValsR W us mm) (hown : W.ownsRow base e 1 v mm.length us) (hg : W.grownBy W' v.ownBlock) : ValsR W' us mm := by
  refine ⟨h.1, fun i l hi => ?_⟩
  obtain ⟨u, h1, b, cap, h2, h3, h4, h5, h6⟩ := h.2 i l hi
  refine ⟨u, h1, b, cap, h2, h3, h4, h5, ?_⟩
  have hne : v.ownBlock ≠ some b := by
    intro hb
    have hlen : 0 < mm.length := Nat.lt_of_le_of_lt (Nat.zero_le i) (List.getElem?_eq_some_iff.1 hi).1
    rcases hown.2 with ⟨rfl, h0⟩ | ⟨g, cp, cur, rfl, _⟩
    · omega
    · have hgb : g = b := Option.some.inj hb
      subst hgb
      obtain ⟨u0, k1, k2⟩ := h.2 0 mm[0] (List.getElem?_eq_getElem hlen)
      obtain ⟨b0, c0, rfl, _⟩ := k2
      have hc := World.ownsRow.cellAt hown 0 (by omega)
      rw [k1] at hc
      obtain ⟨x, hx⟩ : ∃ x, l[0]? = some x := ⟨_, List.getElem?_eq_getElem h5⟩
      have hd := h6.2 0 x hx
      rw [hd] at hc
      cases hc
  have hblk := hg.block b h6.1 (fun e => hne e.symm)
  refine ⟨Nat.lt_of_lt_of_le h6.1 hg.size, fun j x hx => ?_⟩
  have := h6.2 j x hx
  unfold World.cell? at this ⊢
  rw [hblk]; exact this
theorem RowAt.grown {W W' : World} {row : Option Nat} {u : Value} {l : List Int} (h : RowAt W u l) (hg : W.grownBy W' row) (hne : u.ownBlock ≠ row) : RowAt W' u l := by
  obtain ⟨b, cap, rfl, h2, h3, h4, h5⟩ := h
  have hblk := hg.block b h5.1 (fun e => hne e)
  refine ⟨b, cap, rfl, h2, h3, h4, Nat.lt_of_lt_of_le h5.1 hg.size, fun j x hx => ?_⟩
  have := h5.2 j x hx
  unfold World.cell? at this ⊢
  rw [hblk]; exact this
/-- A store into a box that holds no int leaves what the rows read as. -/
theorem ValsR.box {W : World} {us : List Value} {mm : Rts} {B : Nat} {a : Option Addr} {n c : Nat} (h : ValsR W us mm) (hc : W.cell? ⟨B, 0, none⟩ = some (.slice a n c)) (x : Value) : ValsR (W.setCell ⟨B, 0, none⟩ x) us mm := by
  refine ⟨h.1, fun i l hi => ?_⟩
  obtain ⟨u, h1, h2⟩ := h.2 i l hi
  refine ⟨u, h1, h2.grown (grownBy_setCell' W B x) (fun e => ?_)⟩
  obtain ⟨b, cap, rfl, _, _, h4, h5⟩ := h2
  have hbB : b = B := Option.some.inj e
  subst hbB
  have := h5.2 0 _ (List.getElem?_eq_getElem h4)
  rw [hc] at this; cases this
theorem rts_of_owns {W : World} {base : Nat} {v : Value} {us : List Value} {mm : Rts} (h : W.ownsRow base 42 1 v mm.length us) (hv : ValsR W us mm) : HasRts W v mm := by
  rcases h.2 with ⟨rfl, h0⟩ | ⟨g, cap, cur, rfl, h1, h2, h3, h4, _⟩
  · exact .inl ⟨List.eq_nil_of_length_eq_zero h0, none, 0, rfl⟩
  · refine .inr ⟨g, 0, cap, rfl, h3, h4, (Array.getElem?_eq_some_iff.1 h2).1, fun i l hi => ?_⟩
    obtain ⟨u, k1, k2⟩ := hv.2 i l hi
    exact ⟨u, by rw [Nat.zero_add, World.ownsRow.cellAt h i (by have := (List.getElem?_eq_some_iff.1 hi).1; omega), k1], k2.ints⟩
theorem rowAt_of_owns {W : World} {base : Nat} {e : TypeId} {v : Value} {l : List Int} (h : W.ownsRow base e 1 v l.length (l.map intV)) (hl : 0 < l.length) : RowAt W v l := by
  rcases hasInts_of_owns h with ⟨rfl, _⟩ | ⟨b, off, cap, h1, h2, h3, h4⟩
  · simp at hl
  · rcases h.2 with ⟨rfl, _⟩ | ⟨g, cap', cur, h5, _⟩
    · cases h1
    · rw [h5] at h1
      simp only [Value.slice.injEq, Option.some.injEq, Addr.mk.injEq, and_true, true_and] at h1
      obtain ⟨⟨rfl, rfl⟩, rfl⟩ := h1
      exact ⟨g, cap', h5, h2, h3, hl, h4⟩
theorem normR_cons_keep {r : List Int} {rr : Rts} (h : 0 < r.length) : normR (rr ++ [r]) = normR rr ++ [r] := by
  unfold normR
  rw [List.filter_append]
  cases r with
  | nil => simp at h
  | cons a l => simp
theorem normR_cons_drop {rr : Rts} : normR (rr ++ [[]]) = normR rr := by
  unfold normR
  rw [List.filter_append]
  simp
theorem normR_len (rr : Rts) : (normR rr).length ≤ rr.length := List.length_filter_le _ _
set_option maxRecDepth 100000 in
theorem Try.LClone_calls (v : Value) (l : List Int) (w : World) (hl : 0 < l.length) (hl2 : l.length ≤ 2000000) (hv : HasInts w v l) :
    Calls Try.prog 25 #[v] w fun e w' => ∃ u, e = .returned u ∧ RowAt w' u l ∧ (∀ b, u.ownBlock = some b → w.heap.size ≤ b) ∧ Below w.heap.size w w' := by
  rcases hv with ⟨rfl, _⟩ | ⟨b, off, cap, rfl, h1, h2, h3⟩
  · simp at hl
  · refine (Try.slices_Clone_int b off l.length cap l w (Nat.le_refl _) (by omega) (fun j hj => ?_)).mono ?_
    · have := h3.2 j l[j] (List.getElem?_eq_getElem hj)
      rw [this, List.getD_eq_getElem?_getD, List.getElem?_eq_getElem hj]; rfl
    · rintro e w' ⟨u, rfl, k1, _, k2⟩
      rw [List.take_length] at k1
      exact ⟨u, rfl, rowAt_of_owns k1 hl, fun b hb => (World.ownsRow.lt k1 b hb).1, k2⟩
#print axioms Try.LClone_calls
end Go.Proofs
