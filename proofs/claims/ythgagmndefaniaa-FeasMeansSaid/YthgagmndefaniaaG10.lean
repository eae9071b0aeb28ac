/- The law's shown: it is always true. Conditions: none. -/
import Derived.Test.YthgagmndefaniaaG09
import Derived.Deep.DrawnRows
import Derived.Deep.RegionHeld3
import Derived.Deep.Cut
import Derived.RangeFuncNested
import Derived.RangeFuncBound
import Derived.RangeFuncCalls
import Derived.RangeFuncLeaves
namespace Go.Proofs
open Go.RowKit Go.Shelf Go.Canon Go.Feas Go.Plans
attribute [local go_sem] Oper.semAt_some
attribute [local go_sem ↓] Go.wp_at_zero Go.wp_at_succ
theorem shown_cell (W : World) (cs : Array Value) (t : TypeId) (j : Nat) : (W.alloc (.cells cs t)).cell? ⟨W.heap.size, j, none⟩ = cs[j]? := by
  unfold World.cell?
  rw [World.alloc_heap_new]
  rfl
theorem shown_nodes (w : World) (cap : Int) : HasNodes (w.alloc (.cells #[Value.int .i64 0, .int .i64 0, .int .i64 0, .int .i64 0, .int .i64 20, .int .i64 0, .int .i64 0, .int .i64 3, .int .i64 4, .int .i64 4, .int .i64 7, .int .i64 9, .int .i64 1, .int .i64 0, .int .i64 0, .int .i64 4, .int .i64 2, .int .i64 0, .int .i64 20, .int .i64 0, .int .i64 0] 55)) (.slice (some ⟨w.heap.size, 0, none⟩) 3 3) (shownI cap).nodes := by
  refine .inr ⟨w.heap.size, 0, 3, rfl, Nat.le_refl 3, by decide, by simp, fun i d hd => ?_⟩
  rcases i with _ | _ | _ | i
  · obtain rfl : _ = d := Option.some.inj hd
    exact ⟨shown_cell _ _ _ _, shown_cell _ _ _ _, shown_cell _ _ _ _, shown_cell _ _ _ _, shown_cell _ _ _ _, shown_cell _ _ _ _, shown_cell _ _ _ _⟩
  · obtain rfl : _ = d := Option.some.inj hd
    exact ⟨shown_cell _ _ _ _, shown_cell _ _ _ _, shown_cell _ _ _ _, shown_cell _ _ _ _, shown_cell _ _ _ _, shown_cell _ _ _ _, shown_cell _ _ _ _⟩
  · obtain rfl : _ = d := Option.some.inj hd
    exact ⟨shown_cell _ _ _ _, shown_cell _ _ _ _, shown_cell _ _ _ _, shown_cell _ _ _ _, shown_cell _ _ _ _, shown_cell _ _ _ _, shown_cell _ _ _ _⟩
  · simp [shownI] at hd
theorem shown_ints (w : World) : HasInts (w.alloc (.cells #[.int .i64 1, .int .i64 2] 3)) (.slice (some ⟨w.heap.size, 0, none⟩) 2 2) [1, 2] := by
  refine .inr ⟨w.heap.size, 0, 2, rfl, by decide, by decide, by simp, fun i d hd => ?_⟩
  rcases i with _ | _ | i
  · obtain rfl : _ = d := Option.some.inj hd
    exact shown_cell _ _ _ _
  · obtain rfl : _ = d := Option.some.inj hd
    exact shown_cell _ _ _ _
  · simp at hd
theorem shown_rts (w : World) : HasRts ((w.alloc (.cells #[.int .i64 1, .int .i64 2] 3)).alloc (.cells #[.slice (some ⟨w.heap.size, 0, none⟩) 2 2] 23)) (.slice (some ⟨w.heap.size + 1, 0, none⟩) 1 1) [[1, 2]] := by
  have e : (w.alloc (.cells #[.int .i64 1, .int .i64 2] 3)).heap.size = w.heap.size + 1 := by simp
  refine .inr ⟨w.heap.size + 1, 0, 1, rfl, by decide, by decide, by simp, fun i l hl => ?_⟩
  rcases i with _ | i
  · obtain rfl : _ = l := Option.some.inj hl
    refine ⟨.slice (some ⟨w.heap.size, 0, none⟩) 2 2, ?_, (shown_ints w).next (fbelow_box _ _)⟩
    have h := shown_cell (w.alloc (.cells #[.int .i64 1, .int .i64 2] 3)) #[.slice (some ⟨w.heap.size, 0, none⟩) 2 2] 23 0
    rw [e] at h
    exact h
  · simp at hl
theorem shown_box {W : World} {B : Nat} {cap : Int} {vn : Value} {t : TypeId} (h : InsBox W B (shownI cap) vn (.slice none 0 0) t) : W.cell? ⟨B, 0, none⟩ = some (.string ⟨#[116]⟩) ∧ W.cell? ⟨B, 1, none⟩ = some (.int .i64 3) ∧ W.cell? ⟨B, 2, none⟩ = some (.int .i64 1) ∧ W.cell? ⟨B, 3, none⟩ = some (.int .i64 0) ∧ W.cell? ⟨B, 4, none⟩ = some (.int .i64 cap) ∧ W.cell? ⟨B, 5, none⟩ = some (.int .i64 1) ∧ W.cell? ⟨B, 6, none⟩ = some vn ∧ W.cell? ⟨B, 7, none⟩ = some (.slice none 0 0) :=
  ⟨h.c 0, h.c 1, h.c 2, h.c 3, h.c 4, h.c 5, h.c 6, h.c 7⟩
theorem shown_far7 {W : World} {B b o : Nat} {a : Option Addr} {n c : Nat} {t : TypeId} (h : InsBox W B (shownI 5) (.slice a n c) (.slice none 0 0) t) (hc : W.cell? ⟨b, o, none⟩ = some (.int .i64 7)) : b ≠ B := by
  intro e
  subst e
  have h2 := h.c o
  rw [hc] at h2
  match o with
  | 0 | 1 | 2 | 3 | 4 | 5 | 6 | 7 => simp [shownI] at h2
  | o + 8 => simp at h2
theorem shown_far5 {W : World} {B b o : Nat} {a : Option Addr} {n c : Nat} {t : TypeId} (h : InsBox W B (shownI 5) (.slice a n c) (.slice none 0 0) t) (hc : W.cell? ⟨b, o, none⟩ = some (.int .i64 5)) (hc2 : W.cell? ⟨b, o + 1, none⟩ = some (.int .i64 0)) : b ≠ B := by
  intro e
  subst e
  have h2 := h.c o
  have h3 := h.c (o + 1)
  rw [hc] at h2
  rw [hc2] at h3
  match o with
  | 0 | 1 | 2 | 3 | 5 | 6 | 7 => simp [shownI] at h2
  | 4 => simp [shownI] at h3
  | o + 8 => simp at h2
theorem shown_set {W : World} {B : Nat} {vn : Value} {t : TypeId} (h : InsBox W B (shownI 5) vn (.slice none 0 0) t) : InsBox (W.setCell ⟨B, 4, none⟩ (.int .i64 6)) B (shownI 6) vn (.slice none 0 0) t := by
  unfold InsBox at h ⊢
  simp [World.setCell, Array.getElem?_modify, h, shownI]
set_option maxRecDepth 100000 in
set_option maxHeartbeats 4000000 in
theorem Try.fshown_calls (H : Try.FeasC) (w : World) : Calls Try.prog 13 #[] w fun e w' => e = .returned (.bool true) ∧ Below w.heap.size w w' := by
  have HC5 : Hid (∀ vn v W, HasIns W vn (.slice none 0 0) (shownI 5) → HasRts W v [[1, 2]] → Calls Try.prog 14 #[.agg #[.string ⟨#[116]⟩, .int .i64 3, .int .i64 1, .int .i64 0, .int .i64 5, .int .i64 1, vn, .slice none 0 0], .agg #[v]] W fun e w' => ∃ a c, e = .returned (.slice a 1 c) ∧ HasWrs w' (.slice a 1 c) [(5, 0, 2)] ∧ Below W.heap.size W w') := fun vn v W h1 h2 => (H.check (shownI 5) vn (.slice none 0 0) v [[1, 2]] W h1 (shown_fine 5 (.inl rfl)) (by decide) (by decide) h2).mono fun e w' ⟨v', e1, h3, h4⟩ => by
    rw [shown_check] at h3
    obtain ⟨a, c, rfl, _⟩ := h3.dat
    exact ⟨a, c, e1, h3, h4⟩
  have HT5 : Hid (∀ vn v W, HasIns W vn (.slice none 0 0) (shownI 5) → HasInts W v [1, 2] → Calls Try.prog 20 #[.agg #[.string ⟨#[116]⟩, .int .i64 3, .int .i64 1, .int .i64 0, .int .i64 5, .int .i64 1, vn, .slice none 0 0], v] W fun e w' => ∃ a c, e = .returned (.tuple #[.slice a 2 c, .bool true]) ∧ HasInts w' (.slice a 2 c) [7, 11] ∧ Below W.heap.size W w') := fun vn v W h1 h2 => (H.times (shownI 5) vn (.slice none 0 0) v [1, 2] W h1 (shown_fine 5 (.inl rfl)) (by decide) h2).mono fun e w' ⟨v', e1, h3, h4⟩ => by
    rw [shown_times] at h3
    rw [shown_late] at e1
    obtain ⟨a, c, rfl⟩ := h3.len
    exact ⟨a, c, e1, h3, h4⟩
  have HF6 : Hid (∀ vn v W, HasIns W vn (.slice none 0 0) (shownI 6) → HasRts W v [[1, 2]] → Calls Try.prog 19 #[.agg #[.string ⟨#[116]⟩, .int .i64 3, .int .i64 1, .int .i64 0, .int .i64 6, .int .i64 1, vn, .slice none 0 0], .agg #[v]] W fun e w' => e = .returned (.bool true) ∧ Below W.heap.size W w') := fun vn v W h1 h2 => (H.feasible (shownI 6) vn (.slice none 0 0) v [[1, 2]] W h1 (shown_fine 6 (.inr rfl)) (by decide) (by decide) h2).mono fun e w' h => ⟨h.1.trans (by rw [shown_feas]), h.2⟩
  have HC6 : Hid (∀ vn W, HasIns W vn (.slice none 0 0) (shownI 6) → Calls Try.prog 14 #[.agg #[.string ⟨#[116]⟩, .int .i64 3, .int .i64 1, .int .i64 0, .int .i64 6, .int .i64 1, vn, .slice none 0 0], .agg #[.slice none 0 0]] W fun e w' => ∃ a c, e = .returned (.slice a 2 c) ∧ Below W.heap.size W w') := fun vn W h1 => (H.check (shownI 6) vn (.slice none 0 0) (.slice none 0 0) [] W h1 (shown_fine 6 (.inr rfl)) (by decide) (by decide) (.inl ⟨rfl, none, 0, rfl⟩)).mono fun e w' ⟨v', e1, h3, h4⟩ => by
    obtain ⟨a, c, rfl, _⟩ := h3.dat
    rw [shown_two] at e1
    exact ⟨a, c, e1, h4⟩
  clear H
  go_enter Try.func13, Try.ntmps13
  go_wp2_with (fail)
  obtain ⟨V1, hV1⟩ : ∃ V1, V1 = (((w.alloc (.cells #[Value.int .i64 0, .int .i64 0, .int .i64 0, .int .i64 0, .int .i64 20, .int .i64 0, .int .i64 0, .int .i64 3, .int .i64 4, .int .i64 4, .int .i64 7, .int .i64 9, .int .i64 1, .int .i64 0, .int .i64 0, .int .i64 4, .int .i64 2, .int .i64 0, .int .i64 20, .int .i64 0, .int .i64 0] 55)).alloc (.cells #[.string ⟨#[116]⟩, .int .i64 3, .int .i64 1, .int .i64 0, .int .i64 5, .int .i64 1, .slice (some ⟨w.heap.size, 0, none⟩) 3 3, .slice none 0 0] 25)).alloc (.cells #[.int .i64 1, .int .i64 2] 3)).alloc (.cells #[.slice (some ⟨w.heap.size + 1 + 1, 0, none⟩) 2 2] 23) := ⟨_, rfl⟩
  have hb1 : Below w.heap.size w V1 := by rw [hV1]; exact (((fbelow_box w _).alloc (by simp) _).alloc (by simp; omega) _).alloc (by simp; omega) _
  have hx1 : HasIns V1 (.slice (some ⟨w.heap.size, 0, none⟩) 3 3) (.slice none 0 0) (shownI 5) := by
    rw [hV1]
    exact ⟨(((shown_nodes w 5).next (fbelow_box _ _)).next (fbelow_box _ _)).next (fbelow_box _ _), .inl ⟨rfl, none, 0, rfl⟩⟩
  have hB1 : InsBox V1 (w.heap.size + 1) (shownI 5) (.slice (some ⟨w.heap.size, 0, none⟩) 3 3) (.slice none 0 0) 25 := by
    have h := ((InsBox.new (w.alloc (.cells #[Value.int .i64 0, .int .i64 0, .int .i64 0, .int .i64 0, .int .i64 20, .int .i64 0, .int .i64 0, .int .i64 3, .int .i64 4, .int .i64 4, .int .i64 7, .int .i64 9, .int .i64 1, .int .i64 0, .int .i64 0, .int .i64 4, .int .i64 2, .int .i64 0, .int .i64 20, .int .i64 0, .int .i64 0] 55)) (shownI 5) (.slice (some ⟨w.heap.size, 0, none⟩) 3 3) (.slice none 0 0) 25).alloc (.cells #[.int .i64 1, .int .i64 2] 3)).alloc (.cells #[.slice (some ⟨w.heap.size + 1 + 1, 0, none⟩) 2 2] 23)
    have e : (w.alloc (.cells #[Value.int .i64 0, .int .i64 0, .int .i64 0, .int .i64 0, .int .i64 20, .int .i64 0, .int .i64 0, .int .i64 3, .int .i64 4, .int .i64 4, .int .i64 7, .int .i64 9, .int .i64 1, .int .i64 0, .int .i64 0, .int .i64 4, .int .i64 2, .int .i64 0, .int .i64 20, .int .i64 0, .int .i64 0] 55)).heap.size = w.heap.size + 1 := by simp
    rw [e] at h
    rw [hV1]
    exact h
  have hp1 : HasRts V1 (.slice (some ⟨w.heap.size + 1 + 1 + 1, 0, none⟩) 1 1) [[1, 2]] := by
    have h := shown_rts ((w.alloc (.cells #[Value.int .i64 0, .int .i64 0, .int .i64 0, .int .i64 0, .int .i64 20, .int .i64 0, .int .i64 0, .int .i64 3, .int .i64 4, .int .i64 4, .int .i64 7, .int .i64 9, .int .i64 1, .int .i64 0, .int .i64 0, .int .i64 4, .int .i64 2, .int .i64 0, .int .i64 20, .int .i64 0, .int .i64 0] 55)).alloc (.cells #[.string ⟨#[116]⟩, .int .i64 3, .int .i64 1, .int .i64 0, .int .i64 5, .int .i64 1, .slice (some ⟨w.heap.size, 0, none⟩) 3 3, .slice none 0 0] 25))
    have e : ((w.alloc (.cells #[Value.int .i64 0, .int .i64 0, .int .i64 0, .int .i64 0, .int .i64 20, .int .i64 0, .int .i64 0, .int .i64 3, .int .i64 4, .int .i64 4, .int .i64 7, .int .i64 9, .int .i64 1, .int .i64 0, .int .i64 0, .int .i64 4, .int .i64 2, .int .i64 0, .int .i64 20, .int .i64 0, .int .i64 0] 55)).alloc (.cells #[.string ⟨#[116]⟩, .int .i64 3, .int .i64 1, .int .i64 0, .int .i64 5, .int .i64 1, .slice (some ⟨w.heap.size, 0, none⟩) 3 3, .slice none 0 0] 25)).heap.size = w.heap.size + 1 + 1 := by simp
    rw [e] at h
    rw [hV1]
    exact h
  rw [← hV1]
  clear hV1
  refine (HC5.out _ _ _ hx1 hp1).mono ?_
  rintro e w1 ⟨a1, c1, rfl, hw1, hb2⟩
  have HB2 := Lib.hid (hB1.next hb2)
  have HX2 := Lib.hid (hx1.next hb2)
  have HR2 := Lib.hid (hb1.trans (hb2.mono hb1.size))
  have HW2 := Lib.hid hw1
  clear hB1 hx1 hb1 hp1 hw1 hb2 HC5
  obtain ⟨c0, c1', c2, c3, c4, c5, c6, c7⟩ := shown_box HB2.out
  go_wp2_with (fail)
  refine (HT5.out _ _ _ (HX2.out.next (fbelow_box _ _)) (shown_ints w1)).mono ?_
  rintro e w2 ⟨a2, n2, rfl, ht2, hb3⟩
  have hb4 : Below w1.heap.size w1 w2 := (fbelow_box w1 _).trans (hb3.mono (fbelow_box w1 _).size)
  have HB3 := Lib.hid (HB2.out.next hb4)
  have HX3 := Lib.hid (HX2.out.next hb4)
  have HR3 := Lib.hid (HR2.out.trans (hb4.mono HR2.out.size))
  have HW3 := Lib.hid (HW2.out.next hb4)
  have HT3 := Lib.hid ht2
  clear HB2 HX2 HR2 HW2 ht2 hb3 hb4 HT5 c0 c1' c2 c3 c4 c5 c6 c7
  obtain ⟨bw, ow, cw, ew, hw0, hw1, hw2⟩ : ∃ b o c, Value.slice a1 1 c1 = .slice (some ⟨b, o, none⟩) 1 c ∧ w2.cell? ⟨b, o, none⟩ = some (.int .i64 5) ∧ w2.cell? ⟨b, o + 1, none⟩ = some (.int .i64 0) ∧ w2.cell? ⟨b, o + 2, none⟩ = some (.int .i64 2) := by
    rcases HW3.out with ⟨h, _⟩ | ⟨b, o, c, h1, _, _, h4⟩
    · cases h
    · have h := h4.2 0 _ rfl
      simp only [Nat.zero_mul, Nat.add_zero] at h
      exact ⟨b, o, c, h1, h.1, h.2.1, h.2.2⟩
  injection ew with e1 e2 e3
  subst e1
  subst e3
  clear e2
  obtain ⟨bt, ot, ct, et, ht0, ht1⟩ : ∃ b o c, Value.slice a2 2 n2 = .slice (some ⟨b, o, none⟩) 2 c ∧ w2.cell? ⟨b, o, none⟩ = some (.int .i64 7) ∧ w2.cell? ⟨b, o + 1, none⟩ = some (.int .i64 11) := by
    rcases HT3.out with ⟨h, _⟩ | ⟨b, o, c, h1, _, _, h4⟩
    · cases h
    · exact ⟨b, o, c, h1, h4.2 0 _ rfl, h4.2 1 _ rfl⟩
  injection et with e1 e2 e3
  subst e1
  subst e3
  clear e2
  have nw := shown_far5 HB3.out hw0 hw1
  have nt := shown_far7 HB3.out ht0
  obtain ⟨c0, c1', c2, c3, c4, c5, c6, c7⟩ := shown_box HB3.out
  have fz : w2.frozen? ⟨w.heap.size + 1, 4, none⟩ = false := by
    have h := HB3.out
    unfold InsBox at h
    unfold World.frozen?
    rw [h]
    rfl
  go_upto_region 5 with (fail)
  obtain ⟨V3, hV3⟩ : ∃ V3, V3 = w2.setCell ⟨w.heap.size + 1, 4, none⟩ (.int .i64 6) := ⟨_, rfl⟩
  rw [← hV3]
  have far : ∀ (b o : Nat) (u : Value), b ≠ w.heap.size + 1 → w2.cell? ⟨b, o, none⟩ = some u → V3.cell? ⟨b, o, none⟩ = some u := fun b o u hne h => by
    rw [hV3]
    exact (World.cell?_setCell_far w2 ⟨w.heap.size + 1, 4, none⟩ ⟨b, o, none⟩ _ (fun e => hne e.symm)).trans h
  have HB4 : Hid (InsBox V3 (w.heap.size + 1) (shownI 6) (.slice (some ⟨w.heap.size, 0, none⟩) 3 3) (.slice none 0 0) 25) := by rw [hV3]; exact shown_set HB3.out
  have hbV : Below w.heap.size w V3 := by rw [hV3]; exact HR3.out.setCell (by simp) _
  have hXV : HasIns V3 (.slice (some ⟨w.heap.size, 0, none⟩) 3 3) (.slice none 0 0) (shownI 6) := by
    refine ⟨?_, .inl ⟨rfl, none, 0, rfl⟩⟩
    rcases HX3.out.nodes with ⟨h, _⟩ | ⟨b, o, c, h1, h2, h3, h4⟩
    · cases h
    · injection h1 with e1 e2 e3
      injection e1 with e1
      injection e1 with e4 e5
      subst e4
      subst e5
      subst e3
      refine .inr ⟨w.heap.size, 0, 3, rfl, h2, h3, Nat.lt_of_lt_of_le h4.1 (by rw [hV3]; simp [World.setCell]), fun i d hd => ?_⟩
      have h5 := h4.2 i d hd
      exact ⟨far _ _ _ (by simp) h5.x, far _ _ _ (by simp) h5.y, far _ _ _ (by simp) h5.demand, far _ _ _ (by simp) h5.ready, far _ _ _ (by simp) h5.due, far _ _ _ (by simp) h5.service, far _ _ _ (by simp) h5.mate⟩
  have k0 := far _ _ _ nw hw0
  have k1 := far _ _ _ nw hw1
  have k2 := far _ _ _ nw hw2
  have t0 := far _ _ _ nt ht0
  have t1 := far _ _ _ nt ht1
  have HRV := Lib.hid hbV
  have HXV := Lib.hid hXV
  clear hV3 far hbV hXV hw0 hw1 hw2 ht0 ht1 nw nt c0 c1' c2 c3 c4 c5 c6 c7 fz HB3 HX3 HR3 HW3 HT3
  obtain ⟨c0, c1', c2, c3, c4, c5, c6, c7⟩ := shown_box HB4.out
  go_wp2_with (fail)
  refine (HF6.out _ _ _ ((HXV.out.next (fbelow_box _ _)).next (fbelow_box _ _)) (shown_rts V3)).mono ?_
  rintro e w4 ⟨rfl, hb5⟩
  have hb6 : Below V3.heap.size V3 w4 := ((fbelow_box V3 _).alloc (by simp) _).trans (hb5.mono (by simp; omega))
  have HB5 := Lib.hid (HB4.out.next hb6)
  have HX5 := Lib.hid (HXV.out.next hb6)
  have HR5 := Lib.hid (HRV.out.trans (hb6.mono HRV.out.size))
  clear c0 c1' c2 c3 c4 c5 c6 c7 k0 k1 k2 t0 t1 hb5 hb6 HB4 HXV HRV
  obtain ⟨c0, c1', c2, c3, c4, c5, c6, c7⟩ := shown_box HB5.out
  go_wp2_with (fail)
  refine (HC6.out _ _ HX5.out).mono ?_
  rintro e w5 ⟨a5, n5, rfl, hb7⟩
  go_wp2
  go_ret
  exact ⟨rfl, HR5.out.trans (hb7.mono HR5.out.size)⟩
end Go.Proofs
/- What stands in the laws of layer 11: an instance and a plan in their boxes; the gate that all of them have. Conditions: none. -/
namespace Go.Proofs
open Go.RowKit Go.Shelf Go.Canon Go.Feas Go.Plans
attribute [local go_sem] Oper.semAt_some
/-- An instance and a plan in their boxes. -/
structure LwS (w : World) (x : Ins) (vn vm vp : Value) (W : World) : Prop where
  box : InsBox W w.heap.size x vn vm 25
  pbox : BoxAt W (w.heap.size + 1) vp
  below : Below w.heap.size w W
theorem LwS.next {w W W' : World} {x : Ins} {vn vm vp : Value} (h : LwS w x vn vm vp W) (hb : Below W.heap.size W W') : LwS w x vn vm vp W' :=
  ⟨h.box.next hb, h.pbox.next hb, h.below.trans (hb.mono h.below.size)⟩
theorem LwS.drew {w W : World} {x : Ins} {vn vm vp : Value} (h : LwS w x vn vm vp W) : LwS w x vn vm vp W.drew := ⟨h.box, h.pbox, h.below.drew⟩
theorem LwS.alloc {w W : World} {x : Ins} {vn vm vp : Value} (h : LwS w x vn vm vp W) (o : Obj) : LwS w x vn vm vp (W.alloc o) := h.next (fbelow_box W o)
theorem lwS_start (w : World) (x : Ins) (vn vm vp : Value) : LwS w x vn vm vp ((w.alloc (.cells #[.string x.name, .int .i64 x.kind, .int .i64 x.metric, .int .i64 x.scale, .int .i64 x.cap, .int .i64 x.fleet, vn, vm] 25)).alloc (.cells #[vp] 28)) := by
  refine ⟨(InsBox.new w x vn vm 25).alloc _, ?_, (fbelow_box w _).alloc (by simp) _⟩
  have e : (w.alloc (.cells #[.string x.name, .int .i64 x.kind, .int .i64 x.metric, .int .i64 x.scale, .int .i64 x.cap, .int .i64 x.fleet, vn, vm] 25)).heap.size = w.heap.size + 1 := by simp
  have h := BoxAt.new (w.alloc (.cells #[.string x.name, .int .i64 x.kind, .int .i64 x.metric, .int .i64 x.scale, .int .i64 x.cap, .int .i64 x.fleet, vn, vm] 25)) vp 28
  rw [e] at h
  exact h
theorem lwS_S {w W : World} {x : Ins} {vn vm vp : Value} (h : LwS w x vn vm vp W) : W.cell? ⟨w.heap.size, 0, none⟩ = some (.string x.name) ∧ W.cell? ⟨w.heap.size, 1, none⟩ = some (.int .i64 x.kind) ∧ W.cell? ⟨w.heap.size, 2, none⟩ = some (.int .i64 x.metric) ∧ W.cell? ⟨w.heap.size, 3, none⟩ = some (.int .i64 x.scale) ∧ W.cell? ⟨w.heap.size, 4, none⟩ = some (.int .i64 x.cap) ∧ W.cell? ⟨w.heap.size, 5, none⟩ = some (.int .i64 x.fleet) ∧ W.cell? ⟨w.heap.size, 6, none⟩ = some vn ∧ W.cell? ⟨w.heap.size, 7, none⟩ = some vm ∧ W.cell? ⟨w.heap.size + 1, 0, none⟩ = some vp ∧ LwS w x vn vm vp W := by
  obtain ⟨c0, c1, c2, c3, c4, c5, c6, c7⟩ := h.box.cells
  exact ⟨c0, c1, c2, c3, c4, c5, c6, c7, h.pbox.1, h⟩
theorem longQ_fits {rr : Rts} (h : longQ rr = false) : rr.length ≤ 200 ∧ many rr ≤ 300 := by
  have := flong_no h
  exact ⟨this.1, this.2.2⟩
end Go.Proofs
/- My own law for 'for x := range f': the list of the elements that f yields is known ahead; f may itself be a loop over another function, whose rounds call yield. Conditions: a walk at the fence that asks nothing; no panic and no defer in a round. -/
namespace Go
open Go.RowKit

/-- What a round keeps: whatever is no cells and lies at or beyond B, and all cells of the types in T. -/
structure RF (T : Nat → TypeId → Bool) (B : Nat) (W W' : World) : Prop where
  size : W.heap.size ≤ W'.heap.size
  other : ∀ (k : Nat) (o : Obj), B ≤ k → W.heap[k]? = some o → o.isCells = false → W'.heap[k]? = some o
  steady : ∀ (k : Nat) (c : Array Value) (t : TypeId) (z : Nat × Nat), T k t = true → W.heap[k]? = some (.cells c t z) → W'.heap[k]? = some (.cells c t z)

variable {T : Nat → TypeId → Bool} {B : Nat}
theorem RF.refl (W : World) : RF T B W W := ⟨Nat.le_refl _, fun _ _ _ h _ => h, fun _ _ _ _ _ h => h⟩
theorem RF.trans {X Y Z : World} (h : RF T B X Y) (k : RF T B Y Z) : RF T B X Z :=
  ⟨Nat.le_trans h.size k.size, fun i o hB hi ho => k.other i o hB (h.other i o hB hi ho) ho, fun i c t z ht hi => k.steady i c t z ht (h.steady i c t z ht hi)⟩
theorem RF.mono {B' : Nat} {X Y : World} (h : RF T B X Y) (hB : B ≤ B') : RF T B' X Y := ⟨h.size, fun i o hi => h.other i o (Nat.le_trans hB hi), h.steady⟩
theorem RF.alloc {X Y : World} (h : RF T B X Y) (o : Obj) : RF T B X (Y.alloc o) :=
  h.trans ⟨by simp, fun k _ _ hk _ => (Below.heap_alloc Y o k (Array.getElem?_eq_some_iff.1 hk).1).trans hk, fun k _ _ _ _ hk => (Below.heap_alloc Y o k (Array.getElem?_eq_some_iff.1 hk).1).trans hk⟩
theorem RF.drew {X Y : World} (h : RF T B X Y) : RF T B X Y.drew := ⟨h.size, h.other, h.steady⟩
/-- A step that turns one block of cells, of a type that is not in T. -/
theorem RF.grown {X Y Z : World} (h : RF T B X Y) {row : Option Nat} (hg : Y.grownBy Z row)
    (hr : ∀ j, row = some j → ∀ o, Y.heap[j]? = some o → ∃ c t z, o = .cells c t z ∧ T j t = false) : RF T B X Z := by
  refine h.trans ⟨hg.size, fun k o _ hk ho => ?_, fun k c t z ht hk => ?_⟩
  · refine (hg.block k (Array.getElem?_eq_some_iff.1 hk).1 (fun e => ?_)).trans hk
    obtain ⟨c, t, z, rfl, _⟩ := hr k e.symm o hk
    simp [Obj.isCells] at ho
  · refine (hg.block k (Array.getElem?_eq_some_iff.1 hk).1 (fun e => ?_)).trans hk
    obtain ⟨c', t', z', h1, h2⟩ := hr k e.symm _ hk
    cases h1
    rw [h2] at ht; cases ht
theorem RF.set {X Y : World} (h : RF T B X Y) {b : Nat} {t : TypeId} {u : Value} (hb : Boxed Y b t u) (ht : T b t = false) (v : Value) : RF T B X (Y.setCell ⟨b, 0, none⟩ v) :=
  h.grown (grownBy_setCell' Y b v) (fun j e o ho => by cases e; rw [show Y.heap[b]? = _ from hb] at ho; cases ho; exact ⟨_, _, _, rfl, ht⟩)
theorem RF.put {X Y : World} (h : RF T B X Y) {l : Nat} {o o' : Obj} (hl : Y.heap[l]? = some o) (ho : o.isCells = false) (hB : l < B) : RF T B X (Y.putObj l o') := by
  refine h.trans ⟨by simp, fun k _ hk hk' _ => (World.putObj_heap_other (by omega)).trans hk', fun k c t z _ hk => (World.putObj_heap_other (fun e => ?_)).trans hk⟩
  subst e; rw [hl] at hk; cases hk; simp [Obj.isCells] at ho
theorem RF.boxed {X Y : World} (h : RF T B X Y) {b : Nat} {t : TypeId} {u : Value} (hb : Boxed X b t u) (ht : T b t = true) : Boxed Y b t u := h.steady b _ t _ ht hb
theorem RF.keepsFrom {X Y : World} (h : RF T B X Y) : KeepsFrom B X Y := ⟨h.size, h.other⟩

theorem Boxed.at {W : World} (t : TypeId) (v : Value) {m : Nat} (h : W.heap.size = m) : Boxed (W.alloc (.cells #[v] t)) m t v := by rw [← h]; exact Boxed.new W t v
theorem Boxed.own {X Y : World} {b : Nat} {t : TypeId} {v : Value} (h : Boxed X b t v) {row : Option Nat} (hg : X.grownBy Y row) {B' : Nat} (hr : ∀ r, row = some r → B' ≤ r ∧ ∃ o : Obj, X.heap[r]? = some o ∧ o.isCells = false) : Boxed Y b t v :=
  h.kept hg (fun e => by obtain ⟨_, o, ho, hc⟩ := hr b e.symm; rw [show X.heap[b]? = _ from h] at ho; cases ho; cases hc)
theorem RowKit.Below.own {n₀ : Nat} {w X Y : World} (h : Below n₀ w X) (hn : n₀ ≤ w.heap.size) {row : Option Nat} (hg : X.grownBy Y row) {B' : Nat} (hB : n₀ ≤ B') (hr : ∀ r, row = some r → B' ≤ r ∧ ∃ o : Obj, X.heap[r]? = some o ∧ o.isCells = false) : Below n₀ w Y :=
  h.grown hg (Nat.le_trans hn h.size) (fun k e => Nat.le_trans hB (hr k e).1)
theorem Boxed.drew {W : World} {b : Nat} {t : TypeId} {v : Value} (h : Boxed W b t v) : Boxed W.drew b t v := h
theorem Boxed.put {W : World} {b : Nat} {t : TypeId} {v : Value} (h : Boxed W b t v) {l : Nat} {o : Obj} (o' : Obj) (hl : W.heap[l]? = some o) (ho : o.isCells = false) : Boxed (W.putObj l o') b t v :=
  h.kept (grownBy_putObj' W l o') (fun e => by cases e; rw [show W.heap[b]? = _ from h] at hl; cases hl; cases ho)
theorem RowKit.Below.put {n₀ : Nat} {w W : World} (h : Below n₀ w W) (hn : n₀ ≤ w.heap.size) {l : Nat} {o : Obj} (hl : n₀ ≤ l) : Below n₀ w (W.putObj l o) :=
  h.grown (grownBy_putObj' W l o) (Nat.le_trans hn h.size) (fun k e => by cases e; exact hl)

theorem RoundIn.into {F : Fence} {n : Nat} {P : Program} {l : Nat} {f : FuncId} {tmps : Array Value} {assign body : Code} {w : World} {R : Ending → World → Prop} (l' : Nat) (h : RoundIn F n P l f tmps assign body w R) : RoundIn (F.inRound l') n P l f tmps assign body w R := h
theorem RowKit.Below.grownBy {n₀ : Nat} {w W : World} (h : Below n₀ w W) (hn : w.heap.size ≤ n₀) : w.grownBy W none :=
  ⟨h.os, h.tape, h.output, h.size, fun k hk _ => h.block k (by omega)⟩
theorem OwnFrom.below {β : Type} {B n₀ : Nat} {I : β → World → Prop} (h : OwnFrom B I) {s : β} {w W : World} (hs : I s w) (hb : Below n₀ w W) (hn : w.heap.size ≤ n₀) : I s W :=
  h s w W none hs (hb.grownBy hn) (fun r e => by cases e)
theorem RF.below {X Y Z : World} {n₀ : Nat} (h : RF T B X Y) (hb : Below n₀ Y Z) (hn : Y.heap.size ≤ n₀) : RF T B X Z :=
  h.grown (hb.grownBy hn) (fun j e => by cases e)
theorem Boxed.below {X Y : World} {b n₀ : Nat} {t : TypeId} {v : Value} (h : Boxed X b t v) (hb : Below n₀ X Y) (hn : b < n₀) : Boxed Y b t v := (hb.block b hn).trans h

/-- The contract of an iterator value: each element of xs, in its order, till a round says no more. -/
def Seq (T : Nat → TypeId → Bool) (P : Program) (gf : Nat) (lb : Array Value) (xs : List (Array Value)) (w : World) : Prop :=
  ∀ (l : Nat) (J : Nat → World → Prop) (Jx : World → Prop) (W : World), Below w.heap.size w W → OwnFrom W.heap.size J → OwnFrom W.heap.size (fun (_ : Unit) => Jx) →
    (∀ (k : Nat) (x : Array Value) (W1 : World), xs[k]? = some x → J k W1 → YieldAt Fence.wide 0 P l x W1 fun e W' => RF T W.heap.size W1 W' ∧ ((e = .returned (.bool true) ∧ J (k + 1) W') ∨ (e = .returned (.bool false) ∧ Jx W'))) →
    J 0 W →
    Calls P gf (#[.func (.yield l) #[] #[]] ++ lb) W fun e W' => (∃ v, e = .returned v) ∧ (J xs.length W' ∨ Jx W')

theorem Seq.later {P : Program} {gf : Nat} {lb : Array Value} {xs : List (Array Value)} {w w' : World} (h : Seq T P gf lb xs w) (hb : Below w.heap.size w w') : Seq T P gf lb xs w' :=
  fun l J Jx W hW => h l J Jx W (hb.trans (hW.mono hb.size))

/-- How the body of a round may be left. -/
def seqPost (T : Nat → TypeId → Bool) (B : Nat) (I : Nat → World → Prop) (Ix : Code → World → Prop) (k : Nat) (W : World) : Exit → Act → World → Prop
  | .normal, _, W' => RF T B W W' ∧ I (k + 1) W'
  | .ret, _, W' => RF T B W W' ∧ Ix .ret W'
  | .exit id, _, W' => RF T B W W' ∧ Ix (.exit id) W'
  | .goto t, _, W' => RF T B W W' ∧ Ix (.goto t) W'
  | .panic _, _, _ => False
  | .outgrown, _, _ => False

theorem range_seq {P : Program} {g : Operand} {ps : Array Tmp} {assign body : Code} {Q : Exit → Act → World → Prop} {a : Act} {w : World}
    {gf : Nat} {lb : Array Value} (hg : a.eval g = .func (.func gf) #[] lb) (eg : ∀ args w, (callFunc gf args).run P w = .ok (.enter gf args) w)
    {xs : List (Array Value)} {w0 : World} (hseq : Seq T P gf lb xs w0) (hb0 : Below w0.heap.size w0 w) (hps : ∀ (k : Nat) (x : Array Value), xs[k]? = some x → x.size = ps.size)
    (I : Nat → World → Prop) (Ix : Code → World → Prop) (hI : OwnFrom w.heap.size I) (hIx : ∀ c, OwnFrom w.heap.size (fun (_ : Unit) => Ix c)) (h0 : I 0 w)
    (Ax : Array Value → Act → World → Prop) (hAx : ∀ x a', OwnFrom w.heap.size (fun (_ : Unit) W => Ax x a' W))
    (hassign : ∀ (l k : Nat) (x : Array Value) (W : World) (K : Act → World → Prop), xs[k]? = some x → I k W → (∀ a' W', RF T w.heap.size W W' → I k W' → Ax x a' W' → K a' W') →
      assign.wpIn (Fence.wide.inRound l) 0 P (Exit.then K (fun _ _ _ => False)) { tmps := (ps.zip x).foldl (fun t (p, v) => t.setIfInBounds p v) a.tmps, defers := [] } W)
    (hbody : ∀ (l k : Nat) (x : Array Value) (a' : Act) (W : World), xs[k]? = some x → I k W → Ax x a' W → body.wpIn (Fence.wide.inRound l) 0 P (seqPost T w.heap.size I Ix k W) a' W)
    (hdone : ∀ (D : Nat) (W : World), w.heap.size ≤ D → I xs.length W → W.heap[D]? = some (.deferred (some [])) → Q .normal { a with defers := { target := .collected D, args := #[] } :: a.defers } W)
    (hstop : ∀ (D : Nat) (c : Code) (W : World), w.heap.size ≤ D → Ix c W → W.heap[D]? = some (.deferred (some [])) → c.wpIn Fence.wide 0 P Q { a with defers := { target := .collected D, args := #[] } :: a.defers } W) :
    (Code.rangeFunc g ps assign body).wpIn Fence.wide 0 P Q a w := by
  refine wpIn_rangeFunc fun fn hfn => ?_
  -- the record, and the two new blocks
  let rec' : LoopState → Option Code → Loop := fun st pe => { state := st, pending := pe, fn, tmps := a.tmps, params := ps, assign, body, defers := w.heap.size }
  obtain ⟨D, hD⟩ : ∃ D, D = w.heap.size := ⟨_, rfl⟩
  obtain ⟨V, hV⟩ : ∃ V, V = (w.alloc (.deferred (some []))).alloc (.loop (rec' .ready none)) := ⟨_, rfl⟩
  have hVs : V.heap.size = D + 2 := by rw [hV, hD]; simp
  have vl : V.heap[D + 1]? = some (.loop (rec' .ready none)) := by
    have h := World.alloc_heap_new (w.alloc (.deferred (some []))) (.loop (rec' .ready none))
    rw [World.size_alloc, ← hV, ← hD] at h; exact h
  have vd : V.heap[D]? = some (.deferred (some [])) := by
    rw [hV, hD]; exact (Below.heap_alloc _ _ _ (by simp)).trans (World.alloc_heap_new w _)
  have vI : I 0 V := by rw [hV]; exact hI.alloc _ (hI.alloc _ h0)
  have vb : Below w0.heap.size w0 V := by
    rw [hV]; exact hb0.trans ((((Below.refl _ w).alloc (Nat.le_refl _) _).alloc (by simp) _).mono hb0.size)
  -- what the iterator may turn is neither cells nor the two
  have keep : ∀ {A C : World} {row : Option Nat}, A.grownBy C row → (∀ r, row = some r → V.heap.size ≤ r ∧ ∃ o : Obj, A.heap[r]? = some o ∧ o.isCells = false) → ∀ j o, j < D + 2 → A.heap[j]? = some o → C.heap[j]? = some o :=
    fun hg' hr j o hj ho => (hg'.block j (Array.getElem?_eq_some_iff.1 ho).1 (fun e => by have := (hr j e.symm).1; omega)).trans ho
  have wide : ∀ {A : World} {row : Option Nat}, (∀ r, row = some r → V.heap.size ≤ r ∧ ∃ o : Obj, A.heap[r]? = some o ∧ o.isCells = false) → (∀ r, row = some r → w.heap.size ≤ r ∧ ∃ o : Obj, A.heap[r]? = some o ∧ o.isCells = false) :=
    fun hr r e => ⟨by have := (hr r e).1; omega, (hr r e).2⟩
  refine ⟨D + 1, [{ target := .collected D, args := #[] }], V, { target := .fn (.func gf) lb, args := #[.func (.yield (D + 1)) #[] #[]] }, V, gf, #[.func (.yield (D + 1)) #[] #[]] ++ lb, V, ?_, ?_, fun _ _ => trivial, ?_, fun h => (by cases h), ?_⟩
  · rw [hV, hD]; exact run_enterLoop_outer _ _ _ _ _
  · simp only [resolve, hg]; simp [go_sem]
  · simp [invoke, go_sem, eg]
  refine (callsIn_wide.2 (hseq (D + 1)
    (fun k W => I k W ∧ W.heap[D + 1]? = some (.loop (rec' .ready none)) ∧ W.heap[D]? = some (.deferred (some [])))
    (fun W => ∃ c, Ix c W ∧ W.heap[D + 1]? = some (.loop (rec' .done (some c))) ∧ W.heap[D]? = some (.deferred (some [])))
    V vb (fun s A C row hs hg' hr => ⟨hI s A C row hs.1 hg' (wide hr), keep hg' hr _ _ (by omega) hs.2.1, keep hg' hr _ _ (by omega) hs.2.2⟩)
    (fun s A C row hs hg' hr => by
      obtain ⟨c, hc, hl, hk⟩ := hs
      exact ⟨c, hIx c s A C row hc hg' (wide hr), keep hg' hr _ _ (by omega) hl, keep hg' hr _ _ (by omega) hk⟩)
    ?_ ⟨vI, vl, vd⟩)).mono ?_
  · -- one round
    rintro k x W hx ⟨hi, hl, hk⟩
    have hy := run_yield (P := P) (args := x) hl (hps k x hx)
    refine ⟨fn, _, assign, body, hy, roundIn_of_wpIn trivial (hassign _ k x W _ hx hi ?_)⟩
    intro a' Wa hra hia haa
    have hl1 := hra.other _ _ (by omega) hl rfl
    have hk1 := hra.other _ _ (by omega) hk rfl
    have hlt : D + 1 < Wa.heap.size := (Array.getElem?_eq_some_iff.1 hl1).1
    refine ⟨_, run_beginRound hl1 rfl, ?_⟩
    have r1 : RF T (D + 2) W (Wa.putObj (D + 1) (.loop { rec' .ready none with state := .busy })) := (hra.mono (by omega)).put hl1 rfl (by omega)
    have hl2 : (Wa.putObj (D + 1) (.loop { rec' .ready none with state := .busy })).heap[D + 1]? = some (.loop { rec' .ready none with state := .busy }) := World.putObj_heap_same hlt
    have hk2 : (Wa.putObj (D + 1) (.loop { rec' .ready none with state := .busy })).heap[D]? = some (.deferred (some [])) := (World.putObj_heap_other (by omega)).trans hk1
    refine wpIn_mono (hbody _ k x a' _ hx (hI.putObj _ hia (by omega) hl1 rfl) ((hAx x a').putObj (s := ()) _ haa (by omega) hl1 rfl)) ?_
    generalize (Wa.putObj (D + 1) (.loop { rec' .ready none with state := .busy })) = Wb at r1 hl2 hk2 ⊢
    have fin : ∀ (jump : Option Code) (W3 : World), RF T w.heap.size Wb W3 → ∃ W4,
        (Instr.endRound (D + 1) jump).run P W3 = .ok (.bool jump.isNone) W4 ∧ W3.heap[D + 1]? = some (.loop { rec' .ready none with state := .busy }) ∧ W4 = W3.putObj (D + 1) (.loop (rec' (if jump.isNone then .ready else .done) jump)) ∧
        W4.heap[D + 1]? = some (.loop (rec' (if jump.isNone then .ready else .done) jump)) ∧ W4.heap[D]? = some (.deferred (some [])) ∧ RF T V.heap.size W W4 := fun jump W3 hr3 => by
      have hl3 := hr3.other _ _ (by omega) hl2 rfl
      have hk3 := hr3.other _ _ (by omega) hk2 rfl
      refine ⟨_, run_endRound jump hl3, hl3, rfl, World.putObj_heap_same (Array.getElem?_eq_some_iff.1 hl3).1, (World.putObj_heap_other (by omega)).trans hk3, ?_⟩
      rw [hVs]
      exact (r1.trans (hr3.mono (by omega))).put hl3 rfl (by omega)
    rintro e a3 W3 hp
    cases e with
    | normal =>
      obtain ⟨W4, h1, h2, rfl, h4, h5, h6⟩ := fin none W3 hp.1
      exact ⟨_, _, h1, h6, .inl ⟨rfl, hI.putObj _ hp.2 (by omega) h2 rfl, h4, h5⟩⟩
    | ret =>
      obtain ⟨W4, h1, h2, rfl, h4, h5, h6⟩ := fin (some .ret) W3 hp.1
      exact ⟨_, _, h1, h6, .inr ⟨rfl, .ret, (hIx _).putObj (s := ()) _ hp.2 (by omega) h2 rfl, h4, h5⟩⟩
    | exit id =>
      obtain ⟨W4, h1, h2, rfl, h4, h5, h6⟩ := fin (some (.exit id)) W3 hp.1
      exact ⟨_, _, h1, h6, .inr ⟨rfl, .exit id, (hIx _).putObj (s := ()) _ hp.2 (by omega) h2 rfl, h4, h5⟩⟩
    | goto t =>
      obtain ⟨W4, h1, h2, rfl, h4, h5, h6⟩ := fin (some (.goto t)) W3 hp.1
      exact ⟨_, _, h1, h6, .inr ⟨rfl, .goto t, (hIx _).putObj (s := ()) _ hp.2 (by omega) h2 rfl, h4, h5⟩⟩
    | panic ch => exact hp.elim
    | outgrown => exact hp.elim
  · rintro e W2 ⟨⟨v, rfl⟩, (⟨hi, hl, hk⟩ | ⟨c, hc, hl, hk⟩)⟩
    · exact ⟨none, _, run_endLoop hl (by simp [rec']), hdone D _ (by omega) (hI.putObj _ hi (by omega) hl rfl) ((World.putObj_heap_other (by omega)).trans hk)⟩
    · exact ⟨some c, _, run_endLoop hl (by simp [rec']), hstop D c _ (by omega) ((hIx c).putObj (s := ()) _ hc (by omega) hl rfl) ((World.putObj_heap_other (by omega)).trans hk)⟩

#print axioms range_seq
end Go
