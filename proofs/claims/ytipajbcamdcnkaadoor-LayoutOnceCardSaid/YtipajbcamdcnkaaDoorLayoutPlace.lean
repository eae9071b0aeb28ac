/- layout.place and layout.Index of this program. Conditions: of place, a layout of 1 to 7, a line and a cell of the matrix. -/
import Derived.Test.YtipajbcamdcnkaaDoorLayoutCount
namespace Go.Proofs
open Go.RowKit Go.Shelf Go.Layout
attribute [local go_sem] Oper.semAt_some

theorem placeE_ge (k n a b : Nat) : -1 ≤ placeE k n a b := by unfold placeE; split <;> omega

set_option maxRecDepth 100000 in
set_option maxHeartbeats 2000000 in
theorem Tryd.place_calls (k n i j : Nat) (w : World) (hk : 1 ≤ k) (hk7 : k ≤ 7) (hn4 : n ≤ 400) (hi : i < n) (hj : j < n) :
    Calls Tryd.prog 27 #[.int .i64 (k : Int), .int .i64 (n : Int), .int .i64 (i : Int), .int .i64 (j : Int)] w fun e w' => e = .returned (.int .i64 (placeE k n i j)) ∧ Below w.heap.size w w' := by
  refine (callsIn_wide (n := 0)).1 (callsIn_of_wp_marks Tryd.func27 rfl trivial ?_ rfl)
  simp only [Tryd.ntmps27, List.size_toArray, List.length_cons, List.length_nil, Nat.reduceAdd, Nat.reduceSub, Array.replicate_succ, Array.replicate_zero, List.push_toArray, List.append_toArray, List.nil_append, List.cons_append]
  gi_wp2_with (refine ⟨trivial, rfl, ?_⟩; gi_at_call 24; refine (callsIn_wide.2 (Tryd.spans_calls _ _ _)).mono ?_; rintro e w' ⟨rfl, rfl⟩)
  obtain ⟨V, hV⟩ : ∃ V, V = (((((w.alloc (Obj.cells #[Value.int IntKind.i64 (i : Int)] 3)).alloc (Obj.cells #[Value.int IntKind.i64 (j : Int)] 3)).alloc (Obj.cells #[Value.int IntKind.i64 0] 3)).alloc (Obj.cells #[Value.int IntKind.i64 0] 3)).alloc (Obj.cells #[Value.int IntKind.i64 (k : Int)] 3)).alloc (Obj.cells #[Value.int IntKind.i64 (n : Int)] 3) := ⟨_, rfl⟩
  have hVs : V.heap.size = w.heap.size + 1 + 1 + 1 + 1 + 1 + 1 := by rw [hV]; simp
  have b0 : Boxed V w.heap.size 3 (.int .i64 ((i : Int) - ((0 : Nat) : Int))) := by rw [hV, show (i : Int) - ((0 : Nat) : Int) = (i : Int) by omega]; exact (((((Boxed.new w 3 _).alloc _).alloc _).alloc _).alloc _).alloc _
  have b1 : Boxed V (w.heap.size + 1) 3 (.int .i64 (j : Int)) := by rw [hV]; exact ((((Boxed.at 3 _ (by simp)).alloc _).alloc _).alloc _).alloc _
  have b2 : Boxed V (w.heap.size + 1 + 1) 3 (.int .i64 0) := by rw [hV]; exact (((Boxed.at 3 _ (by simp)).alloc _).alloc _).alloc _
  have b3 : Boxed V (w.heap.size + 1 + 1 + 1) 3 (.int .i64 0) := by rw [hV]; exact ((Boxed.at 3 _ (by simp)).alloc _).alloc _
  have b4 : Boxed V (w.heap.size + 1 + 1 + 1 + 1) 3 (.int .i64 (k : Int)) := by rw [hV]; exact (Boxed.at 3 _ (by simp)).alloc _
  have b5 : Boxed V (w.heap.size + 1 + 1 + 1 + 1 + 1) 3 (.int .i64 (n : Int)) := by rw [hV]; exact Boxed.at 3 _ (by simp)
  have hB : Below w.heap.size w V := by rw [hV]; exact ((((((Below.refl _ w).alloc (Nat.le_refl _) _).alloc (by simp) _).alloc (by simp; omega) _).alloc (by simp; omega) _).alloc (by simp; omega) _).alloc (by simp; omega) _
  rw [← hV]
  clear hV
  refine range_seq (T := fun b _ => b == w.heap.size + 1 + 1 + 1 + 1 || b == w.heap.size + 1 + 1 + 1 + 1 + 1) (gf := 34) (lb := #[.pointer (some ⟨w.heap.size + 1 + 1 + 1 + 1 + 1, 0, none⟩), .pointer (some ⟨w.heap.size + 1 + 1 + 1 + 1, 0, none⟩)]) rfl enters34
    (Tryd.spans1_seq _ (w.heap.size + 1 + 1 + 1 + 1) (w.heap.size + 1 + 1 + 1 + 1 + 1) k n V hk hk7 hn4 (by simp) (by simp) b4 b5) (Below.refl _ _) (fun r x h => by obtain ⟨rfl, _⟩ := linesV_get h; rfl)
    (fun r W => Boxed W w.heap.size 3 (.int .i64 ((i : Int) - (r : Int))) ∧ Boxed W (w.heap.size + 1) 3 (.int .i64 (j : Int)) ∧ Boxed W (w.heap.size + 1 + 1) 3 (.int .i64 0) ∧ Boxed W (w.heap.size + 1 + 1 + 1) 3 (.int .i64 ((rowsUp k n r : Nat) : Int)) ∧ Below w.heap.size w W ∧ Hid (i < r → told k i j = false))
    (fun c W => c = .ret ∧ Boxed W (w.heap.size + 1 + 1) 3 (.int .i64 (placeE k n i j)) ∧ Below w.heap.size w W)
    (fun r X Y row h hg hr => ⟨h.1.own hg hr, h.2.1.own hg hr, h.2.2.1.own hg hr, h.2.2.2.1.own hg hr, h.2.2.2.2.1.own (Nat.le_refl _) hg (by omega) hr, h.2.2.2.2.2⟩)
    (fun c _ X Y row h hg hr => ⟨h.1, h.2.1.own hg hr, h.2.2.own (Nat.le_refl _) hg (by omega) hr⟩)
    ⟨b0, b1, b2, b3, hB, Lib.hid fun h => absurd h (by omega)⟩
    (fun x a' _ => a' = { tmps := #[.int .i64 (k : Int), .int .i64 (n : Int), .int .i64 (i : Int), .int .i64 (j : Int), undef, undef, .pointer (some ⟨w.heap.size, 0, none⟩), .pointer (some ⟨w.heap.size + 1, 0, none⟩), .pointer (some ⟨w.heap.size + 1 + 1, 0, none⟩), .pointer (some ⟨w.heap.size + 1 + 1 + 1, 0, none⟩), x[0]!, x[1]!, .int .i64 (k : Int), .int .i64 (n : Int), .func (.func 34) #[] #[.pointer (some ⟨w.heap.size + 1 + 1 + 1 + 1 + 1, 0, none⟩), .pointer (some ⟨w.heap.size + 1 + 1 + 1 + 1, 0, none⟩)], x[0]!, x[1]!, undef, undef, undef, undef, undef, undef, undef, undef, undef, undef, undef, undef, undef, undef, undef, undef, undef, undef, undef, undef, undef, undef, undef, undef], defers := [] })
    (fun _ _ _ _ _ _ h _ _ => h) ?assign ?body ?done ?stop
  case assign =>
    intro l r x W K hx hi hK
    obtain ⟨rfl, hr⟩ := linesV_get hx
    clear hx
    gi_wp2
    exact hK _ _ (RF.refl _) hi rfl
  case body =>
    rintro l r x a' W hx ⟨c0, c1, c2, c3, hB1, hno⟩ rfl
    obtain ⟨rfl, hr⟩ := linesV_get hx
    clear hx
    obtain ⟨hp, hq⟩ := beg_le hk hk7 hr
    have hu := rowsUp_most (k := k) hn4 (Nat.le_of_lt hr)
    have hnext : Hid (((rowsUp k n (r + 1) : Nat) : Int) = ((rowsUp k n r : Nat) : Int) + (((fin k n r : Nat) : Int) - ((beg k r : Nat) : Int))) := by
      unfold Hid; rw [rowsUp_next, rowUp_all hk hk7 hr]; omega
    have htold := told_span (a := r) hk hk7 hj
    have hrow := fun h => rowUp_in (k := k) (n := n) (a := r) (b := j) hk hk7 hr h
    obtain ⟨u, hue⟩ : ∃ u, rowsUp k n r = u := ⟨_, rfl⟩
    obtain ⟨q, hqe⟩ : ∃ q, fin k n r = q := ⟨_, rfl⟩
    obtain ⟨p, hpe⟩ : ∃ p, beg k r = p := ⟨_, rfl⟩
    have HU := Lib.hid hue
    rw [hue] at hu hnext c3
    rw [hqe] at hp hq hnext htold hrow
    rw [hpe] at hp hnext htold hrow
    rw [hqe, hpe]
    have HT := Lib.hid htold
    have HR := Lib.hid hrow
    clear hue hqe hpe htold hrow
    have hc0 := c0.cell
    have hc1 := c1.cell
    have hc2 := c2.cell
    have hc3 := c3.cell
    have hf0 := c0.frozen
    have hf2 := c2.frozen
    have hf3 := c3.frozen
    simp only [List.getElem!_toArray, List.getElem!_cons_zero, List.getElem!_cons_succ]
    by_cases hir : i = r
    · subst hir
      have ez : (i : Int) - (i : Int) = 0 := by omega
      rw [ez] at hc0
      have e0 : ((0 : Int) == 0) = true := rfl
      by_cases hpj : p ≤ j
      · by_cases hjq : j < q
        · have hres : Hid (placeE k n i j = (u : Int) + (j : Int) - (p : Int)) := by
            unfold Hid placeE
            rw [HT.out, if_pos (by simp; omega), HR.out (by omega), HU.out]; omega
          gi_wp2
          refine ⟨(RF.refl _).set c2 (by simp) _, rfl, ?_, hB1.setCell (p := ⟨w.heap.size + 1 + 1, 0, none⟩) (by simp; omega) _⟩
          rw [hres.out]
          exact c2.set _
        · have hno1 : Hid (i < i + 1 → told k i j = false) := by
            unfold Hid; intro _; rw [HT.out]; simp; omega
          gi_wp2
          refine ⟨((RF.refl _).set c3 (by simp) _).set (c0.other (by omega) _) (by simp; omega) _, ?_, (c1.other (by omega) _).other (by omega) _, (c2.other (by omega) _).other (by omega) _, ?_, (hB1.setCell (p := ⟨w.heap.size + 1 + 1 + 1, 0, none⟩) (by simp; omega) _).setCell (p := ⟨w.heap.size, 0, none⟩) (Nat.le_refl _) _, hno1⟩
          · rw [show (i : Int) - ((i + 1 : Nat) : Int) = -1 by omega]
            exact (c0.other (by omega) _).set _
          · rw [hnext.out]
            exact (c3.set _).other (by omega) _
      · have hno1 : Hid (i < i + 1 → told k i j = false) := by
          unfold Hid; intro _; rw [HT.out]; simp; omega
        gi_wp2
        refine ⟨((RF.refl _).set c3 (by simp) _).set (c0.other (by omega) _) (by simp; omega) _, ?_, (c1.other (by omega) _).other (by omega) _, (c2.other (by omega) _).other (by omega) _, ?_, (hB1.setCell (p := ⟨w.heap.size + 1 + 1 + 1, 0, none⟩) (by simp; omega) _).setCell (p := ⟨w.heap.size, 0, none⟩) (Nat.le_refl _) _, hno1⟩
        · rw [show (i : Int) - ((i + 1 : Nat) : Int) = -1 by omega]
          exact (c0.other (by omega) _).set _
        · rw [hnext.out]
          exact (c3.set _).other (by omega) _
    · obtain ⟨z, hz⟩ : ∃ z : Int, z = (i : Int) - (r : Int) := ⟨_, rfl⟩
      have hz1 : -400 ≤ z := by omega
      have hz2 : z ≤ 400 := by omega
      have ez : (z == 0) = false := beq_eq_false_iff_ne.2 (by omega)
      have hno1 : Hid (i < r + 1 → told k i j = false) := by
        have h := hno.out
        exact Lib.hid fun h1 => h (by omega)
      have hz3 : Hid ((i : Int) - ((r + 1 : Nat) : Int) = z - 1) := by unfold Hid; omega
      rw [← hz] at c0 hc0
      clear hz hir
      gi_wp2
      refine ⟨((RF.refl _).set c3 (by simp) _).set (c0.other (by omega) _) (by simp; omega) _, ?_, (c1.other (by omega) _).other (by omega) _, (c2.other (by omega) _).other (by omega) _, ?_, (hB1.setCell (p := ⟨w.heap.size + 1 + 1 + 1, 0, none⟩) (by simp; omega) _).setCell (p := ⟨w.heap.size, 0, none⟩) (Nat.le_refl _) _, hno1⟩
      · rw [hz3.out]
        exact (c0.other (by omega) _).set _
      · rw [hnext.out]
        exact (c3.set _).other (by omega) _
  case done =>
    rintro D W hD ⟨c0, c1, c2, c3, hB1, hno⟩ hK
    rw [linesV_length] at hno
    have hres : Hid (placeE k n i j = -1) := by unfold Hid placeE; rw [hno.out hi]; simp
    have hc2 := c2.cell
    have hf2 := c2.frozen
    have d2 := (c2.set (.int .i64 (-1)))
    have hK1 : (W.setCell ⟨w.heap.size + 1 + 1, 0, none⟩ (.int .i64 (-1))).heap[D]? = some (.deferred (some [])) :=
      ((grownBy_setCell' W (w.heap.size + 1 + 1) _).block D (Array.getElem?_eq_some_iff.1 hK).1 (fun e => by cases e; omega)).trans hK
    have HK := Lib.hid hK1
    have HD2 := Lib.hid d2
    clear hK1 d2
    gi_wp2
    have d3 := (HD2.out.put (.deferred none) HK.out rfl).cell
    refine ⟨by simp, .inl ⟨_, _, rfl, run_takeDeferred HK.out, ?_⟩⟩
    exact ⟨.int .i64 (-1), by simp [results, Tryd.results27, go_sem, d3], by rw [hres.out], (hB1.setCell (p := ⟨w.heap.size + 1 + 1, 0, none⟩) (by simp; omega) _).put (Nat.le_refl _) (by omega)⟩
  case stop =>
    rintro D c W hD ⟨rfl, c2, hB1⟩ hK
    have hc2 := c2.cell
    gi_wp2
    have d3 := (c2.put (.deferred none) hK rfl).cell
    refine ⟨by simp, .inl ⟨_, _, rfl, run_takeDeferred hK, ?_⟩⟩
    exact ⟨.int .i64 (placeE k n i j), by simp [results, Tryd.results27, go_sem, d3], rfl, hB1.put (Nat.le_refl _) (by omega)⟩
#print axioms Tryd.place_calls

set_option maxRecDepth 100000 in
set_option maxHeartbeats 1000000 in
theorem Tryd.Index_in (k n i j : Nat) (w : World) (hk : 1 ≤ k) (hk7 : k ≤ 7) (hn4 : n ≤ 400) (hi : i < n) (hj : j < n) (hc : count k n ≠ 0) :
    Calls Tryd.prog 12 #[.int .i64 (k : Int), .int .i64 (n : Int), .int .i64 (i : Int), .int .i64 (j : Int)] w fun e w' => e = .returned (.int .i64 (index k n i j)) ∧ Below w.heap.size w w' := by
  have C := fun (w : World) => Tryd.Count_in k n w hk hk7 (by omega) hn4
  have d0 : ((count k n : Int) == 0) = false := beq_eq_false_iff_ne.2 (by omega)
  have W1 := fun (w : World) => Tryd.within_calls i n w
  have W2 := fun (w : World) => Tryd.within_calls j n w
  rw [show withinB i n = true by simp [withinB]; omega] at W1
  rw [show withinB j n = true by simp [withinB]; omega] at W2
  have P1 := fun (w : World) => Tryd.place_calls k n i j w hk hk7 hn4 hi hj
  have P2 := fun (w : World) => Tryd.place_calls k n j i w hk hk7 hn4 hj hi
  have he := index_place hk hk7 hi hj
  generalize placeE k n i j = x at P1 he
  generalize placeE k n j i = y at P2 he
  generalize count k n = c at C d0
  clear hc
  by_cases hx : 0 ≤ x
  · rw [if_pos hx] at he
    have HE := Lib.hid he
    have d1 : decide (0 ≤ x) = true := decide_eq_true hx
    clear he P2
    go_enter Tryd.func12, Tryd.ntmps12
    go_wp2_with (fail)
    refine (C _).mono ?_
    rintro e w1 ⟨rfl, hb1⟩
    go_wp2_with (first
      | (go_at_call 26; first
        | ((with_reducible refine (W1 _).mono ?_); rintro e w2 ⟨rfl, hw2⟩; obtain rfl : w1 = w2 := hw2.symm)
        | ((with_reducible refine (W2 _).mono ?_); rintro e w2 ⟨rfl, hw2⟩; obtain rfl : w1 = w2 := hw2.symm))
      | (go_at_call 27; (with_reducible refine (P1 _).mono ?_); rintro e w3 ⟨rfl, hb3⟩))
    go_ret
    exact ⟨lret_num HE.out, hb1.trans (hb3.mono hb1.size)⟩
  · rw [if_neg hx] at he
    have HE := Lib.hid he
    have d1 : decide (0 ≤ x) = false := decide_eq_false hx
    clear he
    go_enter Tryd.func12, Tryd.ntmps12
    go_wp2_with (fail)
    refine (C _).mono ?_
    rintro e w1 ⟨rfl, hb1⟩
    go_wp2_with (first
      | (go_at_call 26; first
        | ((with_reducible refine (W1 _).mono ?_); rintro e w2 ⟨rfl, hw2⟩; obtain rfl : w1 = w2 := hw2.symm)
        | ((with_reducible refine (W2 _).mono ?_); rintro e w2 ⟨rfl, hw2⟩; obtain rfl : w1 = w2 := hw2.symm))
      | (go_at_call 27; first
        | ((with_reducible refine (P1 _).mono ?_); rintro e w3 ⟨rfl, hb3⟩)
        | ((with_reducible refine (P2 _).mono ?_); rintro e w4 ⟨rfl, hb4⟩)))
    go_ret
    exact ⟨lret_num HE.out, (hb1.trans (hb3.mono hb1.size)).trans (hb4.mono (Nat.le_trans hb1.size hb3.size))⟩
end Go.Proofs
