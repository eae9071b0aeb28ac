/- plan.Count of the program. Conditions: fewer than 2^62 stops. -/
import Derived.Test.YtbnefehfkeonhaaPlanCheck
import Derived.Test.YtbnefehfkeonhaaPlanRow
namespace Go.Proofs
open Go.RowKit Go.Plans
attribute [local go_sem] Oper.semAt_some
def cntTo (rr : Rts) (N k : Nat) : List Int := cntL (rr.flatten.take k) N

theorem Try.Count_out (v : Value) (rr : Rts) (x : Int) (w : World) (h : x < 1 ∨ 400 < x) (hv : HasRts w v rr) :
    Calls Try.prog 22 #[planV v, .int .i64 x] w fun e w' => e = .returned (.slice none 0 0) ∧ Below w.heap.size w w' := by
  obtain ⟨ao, cap, rfl⟩ := hv.len
  obtain ⟨n, hn⟩ : ∃ n, rr.length = n := ⟨_, rfl⟩
  rw [hn]
  clear hv hn
  unfold planV
  refine (callsIn_wide (n := 0)).1 (callsIn_of_wp_marks Try.func22 rfl trivial ?_ rfl)
  simp only [Try.ntmps22, List.size_toArray, List.length_cons, List.length_nil, Nat.reduceAdd, Nat.reduceSub, Array.replicate_succ, Array.replicate_zero, List.push_toArray, List.append_toArray, List.nil_append, List.cons_append]
  rcases Int.lt_or_le x 1 with h1 | h1
  · have d1 : decide (x < 1) = true := decide_eq_true h1
    clear h
    gi_wp2
    exact ⟨_, results_tmp rfl _ _ _, rfl, ((Below.refl _ w).alloc (Nat.le_refl _) _).alloc (by simp) _⟩
  · have d1 : decide (x < 1) = false := decide_eq_false (by omega)
    have d2 : decide (400 < x) = true := decide_eq_true (by omega)
    clear h
    gi_wp2
    exact ⟨_, results_tmp rfl _ _ _, rfl, ((Below.refl _ w).alloc (Nat.le_refl _) _).alloc (by simp) _⟩

set_option maxRecDepth 100000 in
set_option maxHeartbeats 2000000 in
theorem Try.Count_in (v : Value) (rr : Rts) (N : Nat) (w : World) (h1 : 1 ≤ N) (h4 : N ≤ 400) (hm : many rr ≤ 4611686018427387904) (hv : HasRts w v rr) :
    Calls Try.prog 22 #[planV v, .int .i64 (N : Int)] w fun e w' => ∃ g, e = .returned (.slice (some ⟨g, 0, none⟩) N N) ∧ w'.ownsRow w.heap.size 3 1 (.slice (some ⟨g, 0, none⟩) N N) N ((countL rr N).map intV) ∧ Below w.heap.size w w' := by
  obtain ⟨i0, hi, hz0, hz1, hz2⟩ := info_parts Try.info3
  have HV := Lib.hid hv
  obtain ⟨ao, cap, rfl⟩ := hv.len
  obtain ⟨n, hn⟩ : ∃ n, rr.length = n := ⟨_, rfl⟩
  rw [hn] at HV ⊢
  have HM := Lib.hid hm
  have HRc := Lib.hid (fun w => Try.visits_calls (.slice ao n cap) w)
  unfold planV at HRc ⊢
  clear hv hn hm
  have d1 : decide ((N : Int) < 1) = false := decide_eq_false (by omega)
  have d2 : decide ((400 : Int) < (N : Int)) = false := decide_eq_false (by omega)
  refine (callsIn_wide (n := 0)).1 (callsIn_of_wp_marks Try.func22 rfl trivial ?_ rfl)
  simp only [Try.ntmps22, List.size_toArray, List.length_cons, List.length_nil, Nat.reduceAdd, Nat.reduceSub, Array.replicate_succ, Array.replicate_zero, List.push_toArray, List.append_toArray, List.nil_append, List.cons_append]
  gi_wp2_with (first
    | (gi_at_make; refine wpListIn_make_full _ rfl _ _ 42 rfl 3 i0 (.int .i64 0) Try.underlying42 hi hz0 hz1 (N : Int) N rfl rfl rfl (by rw [hz2]; omega) (by unfold maxLen; omega) ?_)
    | (refine ⟨trivial, rfl, ?_⟩; gi_at_call 24; refine (callsIn_wide.2 (HRc.out _)).mono ?_; rintro e w' ⟨rfl, rfl⟩))
  obtain ⟨V, hV⟩ : ∃ V, V = (((((w.alloc (Obj.cells #[Value.slice ao n cap] 24)).alloc (Obj.cells #[Value.int IntKind.i64 (N : Int)] 3)).alloc (Obj.cells (madeCells #[Value.int IntKind.i64 0] N) 3)).alloc (Obj.cells #[Value.slice (some { block := w.heap.size + 1 + 1, off := 0 }) N N] 42)).alloc (Obj.cells #[Value.slice ao n cap] 24)) := ⟨_, rfl⟩
  have hVs : V.heap.size = w.heap.size + 1 + 1 + 1 + 1 + 1 := by rw [hV]; simp
  have b1 : Boxed V (w.heap.size + 1) 3 (.int .i64 (N : Int)) := by rw [hV]; exact (((Boxed.at 3 _ (by simp)).alloc _).alloc _).alloc _
  have b3 : Boxed V (w.heap.size + 1 + 1 + 1) 42 (.slice (some ⟨w.heap.size + 1 + 1, 0, none⟩) N N) := by rw [hV]; exact (Boxed.at 42 _ (by simp)).alloc _
  have b4 : Boxed V (w.heap.size + 1 + 1 + 1 + 1) 24 (.slice ao n cap) := by rw [hV]; exact Boxed.at 24 _ (by simp)
  have bo : V.ownsRow w.heap.size 3 1 (.slice (some ⟨w.heap.size + 1 + 1, 0, none⟩) N N) N ((cntTo rr N 0).map intV) := by
    rw [hV]
    have h := owns_made ((w.alloc (Obj.cells #[Value.slice ao n cap] 24)).alloc (Obj.cells #[Value.int IntKind.i64 (N : Int)] 3)) w.heap.size 3 N (by simp; omega) (by unfold maxLen; omega)
    simp only [World.size_alloc] at h
    rw [show cntTo rr N 0 = List.replicate N 0 by unfold cntTo; rw [List.take_zero, cntL_nil]]
    exact (h.alloc _).alloc _
  have hB : Below w.heap.size w V := by
    rw [hV]; exact (((((Below.refl _ w).alloc (Nat.le_refl _) _).alloc (by simp) _).alloc (by simp; omega) _).alloc (by simp; omega) _).alloc (by simp; omega) _
  rw [← hV]
  clear hV hz0 hz1 hz2 hi
  refine range_seqX (T := butT (w.heap.size + 1 + 1)) (gf := 28) (lb := #[.pointer (some ⟨w.heap.size + 1 + 1 + 1 + 1, 0, none⟩)]) rfl (enters_of Try.func28 (by kernel_rfl) rfl)
    (Try.visits1_seq w _ (.slice ao n cap) rr V HV.out (Still.of_below hB) b4 (fun b t h => butT_ne t (by omega))) (Below.refl _ _) (fun k x X h => by obtain ⟨_, _, _, _, _, _, _, rfl⟩ := h; rfl)
    (fun k W => Boxed W (w.heap.size + 1) 3 (.int .i64 (N : Int)) ∧ Boxed W (w.heap.size + 1 + 1 + 1) 42 (.slice (some ⟨w.heap.size + 1 + 1, 0, none⟩) N N) ∧ W.ownsRow w.heap.size 3 1 (.slice (some ⟨w.heap.size + 1 + 1, 0, none⟩) N N) N ((cntTo rr N k).map intV) ∧ Below w.heap.size w W)
    (fun c W => False)
    (fun k X Y row h hg hr => ⟨h.1.own hg hr, h.2.1.own hg hr, ownsRow_own h.2.2.1 (by omega) hg hr, h.2.2.2.own (Nat.le_refl _) hg (by omega) hr⟩)
    (fun c _ X Y row h hg hr => h)
    ⟨b1, b3, bo, hB⟩
    (fun k a' X => ∃ (i j : Nat) (s : Int) (vb : Nat), rr.flatten[k]? = some s ∧ V.heap.size ≤ vb ∧ Vis X vb i j s ∧ a' = { tmps := #[.agg #[.slice ao n cap], .int .i64 (N : Int), .pointer (some ⟨w.heap.size, 0, none⟩), .pointer (some ⟨w.heap.size + 1, 0, none⟩), .slice none 0 0, .pointer (some ⟨w.heap.size + 1 + 1 + 1, 0, none⟩), .pointer (some ⟨vb, 0, none⟩), .int .i64 (N : Int), .bool false, .bool false, .int .i64 (N : Int), .bool false, .bool false, .int .i64 (N : Int), .slice (some ⟨w.heap.size + 1 + 1, 0, none⟩) N N, .agg #[.slice ao n cap], .func (.func 28) #[] #[.pointer (some ⟨w.heap.size + 1 + 1 + 1 + 1, 0, none⟩)], .agg #[.int .i64 (i : Int), .int .i64 (j : Int), .int .i64 s], undef, undef, undef, undef, undef, undef, undef, undef, undef, undef, undef, undef, undef, undef, undef, undef, undef], defers := [] })
    (fun k a' _ X Y row h hg hr => by
      obtain ⟨i, j, s, vb, h1, h2, h3, h4⟩ := h
      exact ⟨i, j, s, vb, h1, h2, h3.own hg hr, h4⟩) ?assign ?body ?done ?stop
  case assign =>
    intro l k x X K hkN hVX hx hi hK
    obtain ⟨i, j, r, s, h1, h2, rfl, rfl⟩ := hx
    have hfl := Lib.hid (flat_get h1 h2)
    have HK := Lib.hid hK
    clear hK h1 h2
    gi_wp2
    exact HK.out _ _ ((RF.refl X).alloc _) ⟨hi.1.alloc _, hi.2.1.alloc _, hi.2.2.1.alloc _, hi.2.2.2.alloc (by have := hi.2.2.2.size; omega) _⟩ ⟨i, j, s, X.heap.size, hfl.out, hVX, Vis.new _ _ _ _, rfl⟩
  case body =>
    rintro l k a' X hkN hVl hlr ⟨c1, c3, co, hB1⟩ ⟨i, j, s, vb, e1, e2, e3, rfl⟩
    have hc1 := c1.cell
    have hc3 := c3.cell
    have hd2 := e3.cell2
    have hsn := take_snoc e1
    by_cases hs : 0 ≤ s ∧ s < (N : Int)
    · obtain ⟨c, rfl⟩ : ∃ c : Nat, s = (c : Int) := ⟨s.toNat, by omega⟩
      have hcN : c < N := by omega
      have t1 : decide (0 ≤ (c : Int)) = true := decide_eq_true (by omega)
      have t2 : decide ((c : Int) < (N : Int)) = true := decide_eq_true (by omega)
      have hstep : Hid (cntTo rr N (k + 1) = (cntTo rr N k).set c (((rr.flatten.take k).count (c : Int) : Int) + 1)) := by
        unfold Hid cntTo
        rw [hsn, cntL_in _ _ hcN]
      have hat := owns_at co hcN (cntL_get (rr.flatten.take k) hcN)
      have hmost : (rr.flatten.take k).count (c : Int) < 4611686018427387905 := by
        have h1 := List.count_le_length (a := (c : Int)) (l := rr.flatten.take k)
        rw [List.length_take] at h1
        have := HM.out
        omega
      obtain ⟨q, hq⟩ : ∃ q, (rr.flatten.take k).count (c : Int) = q := ⟨_, rfl⟩
      rw [hq] at hstep hat hmost
      have hfz := World.ownsRow.frozenAt co c
      have o1 := (World.ownsRow.stored co c (intV ((q : Int) + 1))).1
      rw [map_set, ← hstep.out] at o1
      have HO := Lib.hid o1
      have z0 := Lib.hid (rf_setAt (T := butT (w.heap.size + 1 + 1)) (RF.refl (B := V.heap.size) X) co (butT_eq _ _) c (.int .i64 ((q : Int) + 1)))
      have z1 := Lib.hid (boxed_setAt (j := c) c1 (show w.heap.size + 1 ≠ w.heap.size + 1 + 1 by omega) (.int .i64 ((q : Int) + 1)))
      have z3 := Lib.hid (boxed_setAt (j := c) c3 (show w.heap.size + 1 + 1 + 1 ≠ w.heap.size + 1 + 1 by omega) (.int .i64 ((q : Int) + 1)))
      have z4 := Lib.hid (lset_below (j := c) hB1 (show w.heap.size ≤ w.heap.size + 1 + 1 by omega) (.int .i64 ((q : Int) + 1)))
      clear hlr e1 e3 hsn hq hstep o1 co b1 b3 b4 bo hB
      gi_wp2
      exact ⟨z0.out, z1.out, z3.out, HO.out, z4.out⟩
    · have hout : Hid (cntTo rr N (k + 1) = cntTo rr N k) := by
        unfold Hid cntTo
        rw [hsn, cntL_out _ _ hs]
      have co' : X.ownsRow w.heap.size 3 1 (.slice (some ⟨w.heap.size + 1 + 1, 0, none⟩) N N) N ((cntTo rr N (k + 1)).map intV) := by rw [hout.out]; exact co
      clear hlr e1 e3 hsn hout co b1 b3 b4 bo hB
      by_cases h0 : 0 ≤ s
      · have t1 : decide (0 ≤ s) = true := decide_eq_true h0
        have t2 : decide (s < (N : Int)) = false := decide_eq_false (by omega)
        clear hs
        gi_wp2
        exact ⟨RF.refl _, c1, c3, co', hB1⟩
      · have t1 : decide (0 ≤ s) = false := decide_eq_false h0
        clear hs
        gi_wp2
        exact ⟨RF.refl _, c1, c3, co', hB1⟩
  case done =>
    rintro D X hD ⟨c1, c3, co, hB1⟩ hK
    have hc3 := c3.cell
    rw [show cntTo rr N (many rr) = countL rr N by unfold cntTo; rw [many_flat, List.take_length, cntL_flat]] at co
    gi_wp2
    refine ⟨by simp, .inl ⟨_, _, rfl, run_takeDeferred hK, ?_⟩⟩
    exact ⟨_, results_tmp rfl _ _ _, _, rfl, co.kept (grownBy_putObj' X D _) (.inr fun e' => by have h : w.heap.size + 1 + 1 = D := Option.some.inj e'; omega), hB1.put (Nat.le_refl _) (by omega)⟩
  case stop => exact fun _ _ _ _ h _ => h.elim
#print axioms Try.Count_in
end Go.Proofs
