/- plan.Find of the program. No bound. -/
import Derived.Test.YtbnefehfkeonhaaPlanCheck
import Derived.Test.YtbnefehfkeonhaaPlanRFind
namespace Go.Proofs
open Go.RowKit Go.Plans
attribute [local go_sem] Oper.semAt_some
def notTo (s : Int) (rr : Rts) (k : Nat) : Prop := s ∉ rr.flatten.take k
def foundAt (s : Int) (rr : Rts) (i j : Nat) : Prop := findR s rr = some (i, j)

theorem find_close {w W : World} {n : Nat} {u1 u2 u3 : Value} (c1 : Boxed W (n + 2) 3 u1) (c2 : Boxed W (n + 3) 3 u2) (c3 : Boxed W (n + 4) 4 u3) (hB1 : Below n w W) (v1 v2 v3 : Value) :
    Boxed (((W.setCell ⟨n + 2, 0, none⟩ v1).setCell ⟨n + 3, 0, none⟩ v2).setCell ⟨n + 4, 0, none⟩ v3) (n + 2) 3 v1 ∧
    Boxed (((W.setCell ⟨n + 2, 0, none⟩ v1).setCell ⟨n + 3, 0, none⟩ v2).setCell ⟨n + 4, 0, none⟩ v3) (n + 3) 3 v2 ∧
    Boxed (((W.setCell ⟨n + 2, 0, none⟩ v1).setCell ⟨n + 3, 0, none⟩ v2).setCell ⟨n + 4, 0, none⟩ v3) (n + 4) 4 v3 ∧
    Below n w (((W.setCell ⟨n + 2, 0, none⟩ v1).setCell ⟨n + 3, 0, none⟩ v2).setCell ⟨n + 4, 0, none⟩ v3) := by
  have e2 := c2.other (B' := n + 2) (by omega) v1
  have e3 := (c3.other (B' := n + 2) (by omega) v1).other (B' := n + 3) (by omega) v2
  exact ⟨((c1.set v1).other (by omega) v2).other (by omega) v3, (e2.set v2).other (by omega) v3, e3.set v3,
    ((hB1.setCell (p := ⟨n + 2, 0, none⟩) (by simp) v1).setCell (p := ⟨n + 3, 0, none⟩) (by simp) v2).setCell (p := ⟨n + 4, 0, none⟩) (by simp) v3⟩

set_option maxRecDepth 100000 in
set_option maxHeartbeats 1000000 in
theorem Try.Find_calls (v : Value) (rr : Rts) (st : Int) (w : World) (hv : HasRts w v rr) :
    Calls Try.prog 19 #[planV v, .int .i64 st] w fun e w' => e = .returned (findV (findR st rr)) ∧ Below w.heap.size w w' := by
  have HV := Lib.hid hv
  obtain ⟨ao, cap, rfl⟩ := hv.len
  obtain ⟨n, hn⟩ : ∃ n, rr.length = n := ⟨_, rfl⟩
  rw [hn] at HV ⊢
  have HRc := Lib.hid (fun w => Try.visits_calls (.slice ao n cap) w)
  unfold planV at HRc ⊢
  clear hv hn
  refine (callsIn_wide (n := 0)).1 (callsIn_of_wp_marks Try.func19 rfl trivial ?_ rfl)
  simp only [Try.ntmps19, List.size_toArray, List.length_cons, List.length_nil, Nat.reduceAdd, Nat.reduceSub, Array.replicate_succ, Array.replicate_zero, List.push_toArray, List.append_toArray, List.nil_append, List.cons_append]
  gi_wp2_with (refine ⟨trivial, rfl, ?_⟩; gi_at_call 24; refine (callsIn_wide.2 (HRc.out _)).mono ?_; rintro e w' ⟨rfl, rfl⟩)
  obtain ⟨V, hV⟩ : ∃ V, V = (((((w.alloc (Obj.cells #[Value.slice ao n cap] 24)).alloc (Obj.cells #[Value.int IntKind.i64 st] 3)).alloc (Obj.cells #[Value.int IntKind.i64 0] 3)).alloc (Obj.cells #[Value.int IntKind.i64 0] 3)).alloc (Obj.cells #[Value.bool false] 4)).alloc (Obj.cells #[Value.slice ao n cap] 24) := ⟨_, rfl⟩
  have hVs : V.heap.size = w.heap.size + 6 := by rw [hV]; simp
  have b1 : Boxed V (w.heap.size + 1) 3 (.int .i64 st) := by rw [hV]; exact ((((Boxed.at 3 _ (by simp)).alloc _).alloc _).alloc _).alloc _
  have b2 : Boxed V (w.heap.size + 2) 3 (.int .i64 0) := by rw [hV]; exact (((Boxed.at 3 _ (by simp)).alloc _).alloc _).alloc _
  have b3 : Boxed V (w.heap.size + 3) 3 (.int .i64 0) := by rw [hV]; exact ((Boxed.at 3 _ (by simp)).alloc _).alloc _
  have b4 : Boxed V (w.heap.size + 4) 4 (.bool false) := by rw [hV]; exact (Boxed.at 4 _ (by simp)).alloc _
  have b5 : Boxed V (w.heap.size + 5) 24 (.slice ao n cap) := by rw [hV]; exact Boxed.at 24 _ (by simp)
  have hB : Below w.heap.size w V := by
    rw [hV]; exact ((((((Below.refl _ w).alloc (Nat.le_refl _) _).alloc (by simp) _).alloc (by simp; omega) _).alloc (by simp; omega) _).alloc (by simp; omega) _).alloc (by simp; omega) _
  rw [← hV]
  clear hV
  refine range_seqX (T := fun b _ => decide (b < w.heap.size) || decide (w.heap.size + 5 ≤ b)) (gf := 28) (lb := #[.pointer (some ⟨w.heap.size + 5, 0, none⟩)]) rfl (enters_of Try.func28 (by kernel_rfl) rfl)
    (Try.visits1_seq w _ (.slice ao n cap) rr V HV.out (Still.of_below hB) b5 (fun b t h => by simp; omega)) (Below.refl _ _) (fun k x X h => by obtain ⟨_, _, _, _, _, _, _, rfl⟩ := h; rfl)
    (fun k W => Boxed W (w.heap.size + 1) 3 (.int .i64 st) ∧ Boxed W (w.heap.size + 2) 3 (.int .i64 0) ∧ Boxed W (w.heap.size + 3) 3 (.int .i64 0) ∧ Boxed W (w.heap.size + 4) 4 (.bool false) ∧ Below w.heap.size w W ∧ notTo st rr k)
    (fun c W => c = .ret ∧ ∃ i j : Nat, foundAt st rr i j ∧ Boxed W (w.heap.size + 2) 3 (.int .i64 (i : Int)) ∧ Boxed W (w.heap.size + 3) 3 (.int .i64 (j : Int)) ∧ Boxed W (w.heap.size + 4) 4 (.bool true) ∧ Below w.heap.size w W)
    (fun k X Y row h hg hr => ⟨h.1.own hg hr, h.2.1.own hg hr, h.2.2.1.own hg hr, h.2.2.2.1.own hg hr, h.2.2.2.2.1.own (Nat.le_refl _) hg (by omega) hr, h.2.2.2.2.2⟩)
    (fun c _ X Y row h hg hr => by
      obtain ⟨hc, i, j, h1, h2, h3, h4, h5⟩ := h
      exact ⟨hc, i, j, h1, h2.own hg hr, h3.own hg hr, h4.own hg hr, h5.own (Nat.le_refl _) hg (by omega) hr⟩)
    ⟨b1, b2, b3, b4, hB, by unfold notTo; simp⟩
    (fun k a' X => ∃ (i j : Nat) (l : List Int) (s : Int) (vb : Nat), rr[i]? = some l ∧ l[j]? = some s ∧ k = many (rr.take i) + j ∧ V.heap.size ≤ vb ∧ Vis X vb i j s ∧ a' = { tmps := #[.agg #[.slice ao n cap], .int .i64 st, .pointer (some ⟨w.heap.size, 0, none⟩), .pointer (some ⟨w.heap.size + 1, 0, none⟩), .pointer (some ⟨w.heap.size + 1 + 1, 0, none⟩), .pointer (some ⟨w.heap.size + 1 + 1 + 1, 0, none⟩), .pointer (some ⟨w.heap.size + 1 + 1 + 1 + 1, 0, none⟩), .pointer (some ⟨vb, 0, none⟩), .agg #[.slice ao n cap], .func (.func 28) #[] #[.pointer (some ⟨w.heap.size + 1 + 1 + 1 + 1 + 1, 0, none⟩)], .agg #[.int .i64 (i : Int), .int .i64 (j : Int), .int .i64 s], undef, undef, undef, undef, undef, undef, undef, undef], defers := [] })
    (fun k a' _ X Y row h hg hr => by
      obtain ⟨i, j, l, s, vb, h1, h2, h3, h4, h5, h6⟩ := h
      exact ⟨i, j, l, s, vb, h1, h2, h3, h4, h5.own hg hr, h6⟩) ?assign ?body ?done ?stop
  case assign =>
    intro l k x X K hkN hVX hx hi hK
    obtain ⟨i, j, r, s, h1, h2, h3, rfl⟩ := hx
    have HK := Lib.hid hK
    have H1 := Lib.hid h1
    have H2 := Lib.hid h2
    have H3 := Lib.hid h3
    clear hK h1 h2 h3
    gi_wp2
    exact HK.out _ _ ((RF.refl X).alloc _) ⟨hi.1.alloc _, hi.2.1.alloc _, hi.2.2.1.alloc _, hi.2.2.2.1.alloc _, hi.2.2.2.2.1.alloc (by have := hi.2.2.2.2.1.size; omega) _, hi.2.2.2.2.2⟩ ⟨i, j, r, s, X.heap.size, H1.out, H2.out, H3.out, hVX, Vis.new _ _ _ _, rfl⟩
  case body =>
    rintro l k a' X hkN hVl hlr ⟨c1, c2, c3, c4, hB1, hH⟩ ⟨i, j, r, s, vb, h1, h2, h3, h4, h5, rfl⟩
    have hc1 := c1.cell
    have hc2 := c2.cell
    have hf2 := c2.frozen
    have hc3 := c3.cell
    have hf3 := c3.frozen
    have hc4 := c4.cell
    have hf4 := c4.frozen
    have hd0 := h5.cell0
    have hd1 := h5.cell1
    have hd2 := h5.cell2
    have hfl := flat_get h1 h2
    rw [← h3] at hfl
    by_cases hs : s = st
    · have d : (s == st) = true := beq_iff_eq.2 hs
      have hF : foundAt st rr i j := findR_flat h1 (by rw [← hs]; exact h2) (by rw [← h3]; exact hH)
      have hmx : Try.prog.follows .mixedOrders = true := by kernel_rfl
      clear hlr h1 h2 h3 h5 hs hfl hH
      gi_wp2
      gi_region_with_o (fail)
      all_goals
        gi_wp2
        have z0 : RF (fun b _ => decide (b < w.heap.size) || decide (w.heap.size + 5 ≤ b)) V.heap.size X (((X.setCell ⟨w.heap.size + 2, 0, none⟩ (.int .i64 (i : Int))).setCell ⟨w.heap.size + 3, 0, none⟩ (.int .i64 (j : Int))).setCell ⟨w.heap.size + 4, 0, none⟩ (.bool true)) :=
          (((RF.refl X).set c2 (by simp) _).set (c3.other (by omega) _) (by simp) _).set ((c4.other (by omega) _).other (by omega) _) (by simp) _
        obtain ⟨z1, z2, z3, z4⟩ := find_close c2 c3 c4 hB1 (.int .i64 (i : Int)) (.int .i64 (j : Int)) (.bool true)
        exact ⟨z0.drew, rfl, i, j, hF, z1.drew, z2.drew, z3.drew, z4.drew⟩
    · have d : (s == st) = false := beq_eq_false_iff_ne.2 hs
      have hN : notTo st rr (k + 1) := by
        unfold notTo
        rw [take_snoc hfl, List.mem_append, not_or]
        exact ⟨hH, by simp; exact fun e => hs e.symm⟩
      clear hlr h1 h2 h3 h5 hs hfl hH
      gi_wp2
      exact ⟨RF.refl _, c1, c2, c3, c4, hB1, hN⟩
  case done =>
    rintro D X hD ⟨c1, c2, c3, c4, hB1, hH⟩ hK
    have hc2 := c2.cell
    have hf2 := c2.frozen
    have hc3 := c3.cell
    have hf3 := c3.frozen
    have hc4 := c4.cell
    have hf4 := c4.frozen
    have hF : findR st rr = none := by
      rw [findR_none]
      have h : st ∉ rr.flatten.take (many rr) := hH
      rwa [many_flat, List.take_length] at h
    clear hH
    gi_wp2
    obtain ⟨z1, z2, z3, z4⟩ := find_close c2 c3 c4 hB1 (.int .i64 0) (.int .i64 0) (.bool false)
    have hK2 := (((KeepsOthers.setCell X ⟨w.heap.size + 2, 0, none⟩ (.int .i64 0)).trans (KeepsOthers.setCell _ ⟨w.heap.size + 3, 0, none⟩ (.int .i64 0))).trans (KeepsOthers.setCell _ ⟨w.heap.size + 4, 0, none⟩ (.bool false))).same D _ hK rfl
    refine ⟨by simp, .inl ⟨_, _, rfl, run_takeDeferred hK2, ?_⟩⟩
    exact ⟨.tuple #[.int .i64 0, .int .i64 0, .bool false], by simp [results, Try.results19, go_sem, (z1.put _ hK2 rfl).cell, (z2.put _ hK2 rfl).cell, (z3.put _ hK2 rfl).cell], by rw [hF]; rfl, z4.put (Nat.le_refl _) (by omega)⟩
  case stop =>
    rintro D c X hD ⟨rfl, i, j, hF, c2, c3, c4, hB1⟩ hK
    gi_wp2
    rw [show findR st rr = some (i, j) from hF]
    refine ⟨by simp, .inl ⟨_, _, rfl, run_takeDeferred hK, ?_⟩⟩
    exact ⟨.tuple #[_, _, _], by simp [results, Try.results19, go_sem, (c2.put _ hK rfl).cell, (c3.put _ hK rfl).cell, (c4.put _ hK rfl).cell], rfl, hB1.put (Nat.le_refl _) (by omega)⟩
#print axioms Try.Find_calls
end Go.Proofs
