/- plan.Check of the program. Conditions: fewer than 2^62 stops. -/
import Derived.Test.YtbnefehfkeonhaaPlanMany
import Derived.Test.YtbnefehfkeonhaaPlanFlat
namespace Go.Proofs
open Go.RowKit Go.Plans
attribute [local go_sem] Oper.semAt_some

/-- A visit in a block of its own. -/
structure Vis (W : World) (b : Nat) (i j s : Int) : Prop where
  blk : W.heap[b]? = some (.cells #[.int .i64 i, .int .i64 j, .int .i64 s] 53)
theorem Vis.new (W : World) (i j s : Int) : Vis (W.alloc (.cells #[.int .i64 i, .int .i64 j, .int .i64 s] 53)) W.heap.size i j s := ⟨World.alloc_heap_new W _⟩
theorem Vis.lt {W : World} {b : Nat} {i j s : Int} (h : Vis W b i j s) : b < W.heap.size := (Array.getElem?_eq_some_iff.1 h.blk).1
theorem Vis.own {X Y : World} {b : Nat} {i j s : Int} (h : Vis X b i j s) {row : Option Nat} (hg : X.grownBy Y row) {B' : Nat} (hr : ∀ r, row = some r → B' ≤ r ∧ ∃ o : Obj, X.heap[r]? = some o ∧ o.isCells = false) : Vis Y b i j s :=
  ⟨(hg.block b h.lt (fun e => by obtain ⟨_, o, ho, hc⟩ := hr b e.symm; rw [h.blk] at ho; cases ho; cases hc)).trans h.blk⟩
theorem Vis.cell0 {W : World} {b : Nat} {i j s : Int} (h : Vis W b i j s) : W.cell? ⟨b, 0, none⟩ = some (.int .i64 i) := by unfold World.cell?; simp only [h.blk]; rfl
theorem Vis.cell1 {W : World} {b : Nat} {i j s : Int} (h : Vis W b i j s) : W.cell? ⟨b, 1, none⟩ = some (.int .i64 j) := by unfold World.cell?; simp only [h.blk]; rfl
theorem Vis.cell2 {W : World} {b : Nat} {i j s : Int} (h : Vis W b i j s) : W.cell? ⟨b, 2, none⟩ = some (.int .i64 s) := by unfold World.cell?; simp only [h.blk]; rfl

def inS (s : Int) : Bool := decide (0 ≤ s) && decide (s ≤ 399)
def okTo (rr : Rts) (k : Nat) : Prop := (rr.flatten.take k).all inS = true
def badS (rr : Rts) : Prop := rr.flatten.all inS = false

set_option maxRecDepth 100000 in
set_option maxHeartbeats 1000000 in
theorem Try.Check_calls (v : Value) (rr : Rts) (w : World) (hm : many rr ≤ 4611686018427387904) (hv : HasRts w v rr) :
    Calls Try.prog 10 #[planV v] w fun e w' => e = .returned (.int .i64 (checkE rr)) ∧ Below w.heap.size w w' := by
  have HV := Lib.hid hv
  have HMc : Hid (∀ X : World, Below w.heap.size w X → Calls Try.prog 16 #[planV v] X fun e w' => e = .returned (.int .i64 (many rr : Int)) ∧ Below X.heap.size X w') :=
    fun X hX => Try.Many_calls v rr X hm (hv.next hX)
  obtain ⟨ao, cap, rfl⟩ := hv.len
  obtain ⟨n, hn⟩ : ∃ n, rr.length = n := ⟨_, rfl⟩
  obtain ⟨m, hmm⟩ : ∃ m, many rr = m := ⟨_, rfl⟩
  rw [hn] at HV HMc ⊢
  rw [hmm] at HMc hm
  have HN := Lib.hid hn
  have HM := Lib.hid hmm
  have HRc := Lib.hid (fun w => Try.visits_calls (.slice ao n cap) w)
  unfold planV at HRc HMc ⊢
  clear hv hn hmm
  refine (callsIn_wide (n := 0)).1 (callsIn_of_wp_marks Try.func10 rfl trivial ?_ rfl)
  simp only [Try.ntmps10, List.size_toArray, List.length_cons, List.length_nil, Nat.reduceAdd, Nat.reduceSub, Array.replicate_succ, Array.replicate_zero, List.push_toArray, List.append_toArray, List.nil_append, List.cons_append]
  by_cases h400 : 400 < n
  · have hd : decide ((400 : Int) < (n : Int)) = true := decide_eq_true (by omega)
    have HC : Hid (checkE rr = 2) := by
      unfold Hid checkE
      rw [if_pos (.inl (by have := HN.out; omega))]
    gi_wp2
    refine ⟨trivial, ?_⟩
    gi_wp2
    have b1 : Boxed ((w.alloc (Obj.cells #[Value.slice ao n cap] 24)).alloc (Obj.cells #[Value.int IntKind.i64 2] 27)) (w.heap.size + 1) 27 (.int .i64 2) := Boxed.at 27 _ (by simp)
    rw [HC.out]
    exact ⟨.int .i64 2, by simp [results, Try.results10, go_sem, b1.cell], rfl, ((Below.refl _ w).alloc (Nat.le_refl _) _).alloc (by simp) _⟩
  · have hd : decide ((400 : Int) < (n : Int)) = false := decide_eq_false (by omega)
    by_cases h2000 : 2000 < m
    · have hd2 : decide ((2000 : Int) < (m : Int)) = true := decide_eq_true (by omega)
      have HC : Hid (checkE rr = 2) := by
        unfold Hid checkE
        rw [if_pos (.inr (by have := HM.out; omega))]
      gi_wp2
      refine ⟨trivial, rfl, ?_⟩
      refine (callsIn_wide.2 (HMc.out _ (((Below.refl _ w).alloc (Nat.le_refl _) _).alloc (by simp) _))).mono ?_
      rintro e w' ⟨rfl, hb⟩
      have hB : Below w.heap.size w w' := (((Below.refl _ w).alloc (Nat.le_refl _) _).alloc (by simp) _).trans (hb.mono (by simp; omega))
      have b1 : Boxed w' (w.heap.size + 1) 27 (.int .i64 0) := (Boxed.at 27 _ (by simp)).below hb (by simp)
      have hc1 := b1.cell
      have hf1 := b1.frozen
      clear hb
      gi_wp2
      rw [HC.out]
      exact ⟨.int .i64 2, by simp [results, Try.results10, go_sem, (b1.set (.int .i64 2)).cell], rfl, hB.setCell (p := ⟨w.heap.size + 1, 0, none⟩) (by simp) _⟩
    · have hd2 : decide ((2000 : Int) < (m : Int)) = false := decide_eq_false (by omega)
      gi_wp2
      refine ⟨trivial, rfl, ?_⟩
      refine (callsIn_wide.2 (HMc.out _ (((Below.refl _ w).alloc (Nat.le_refl _) _).alloc (by simp) _))).mono ?_
      rintro e w' ⟨rfl, hb⟩
      have hB : Below w.heap.size w w' := (((Below.refl _ w).alloc (Nat.le_refl _) _).alloc (by simp) _).trans (hb.mono (by simp; omega))
      have b0 : Boxed w' w.heap.size 24 (.slice ao n cap) := ((Boxed.at 24 _ rfl).alloc _).below hb (by simp; omega)
      have b1 : Boxed w' (w.heap.size + 1) 27 (.int .i64 0) := (Boxed.at 27 _ (by simp)).below hb (by simp)
      have hc0 := b0.cell
      have hsz : w.heap.size + 2 ≤ w'.heap.size := by have := b1.lt; omega
      clear hb
      gi_wp2_with (refine ⟨trivial, rfl, ?_⟩; gi_at_call 24; refine (callsIn_wide.2 (HRc.out _)).mono ?_; rintro e w' ⟨rfl, rfl⟩)
      clear hc0 b0
      obtain ⟨V, hV⟩ : ∃ V, V = w'.alloc (Obj.cells #[Value.slice ao n cap] 24) := ⟨_, rfl⟩
      have hVs : V.heap.size = w'.heap.size + 1 := by rw [hV]; simp
      replace b1 : Boxed V (w.heap.size + 1) 27 (.int .i64 0) := by rw [hV]; exact b1.alloc _
      have b2 : Boxed V w'.heap.size 24 (.slice ao n cap) := by rw [hV]; exact Boxed.new _ _ _
      replace hB : Below w.heap.size w V := by rw [hV]; exact hB.alloc (by omega) _
      rw [← hV]
      clear hV
      refine range_seqX (T := butT (w.heap.size + 1)) (gf := 28) (lb := #[.pointer (some ⟨w'.heap.size, 0, none⟩)]) rfl (enters_of Try.func28 (by kernel_rfl) rfl)
        (Try.visits1_seq w _ (.slice ao n cap) rr V HV.out (Still.of_below hB) b2 (fun b t h => butT_ne t (by omega))) (Below.refl _ _) (fun k x X h => by obtain ⟨_, _, _, _, _, _, _, rfl⟩ := h; rfl)
        (fun k W => Boxed W (w.heap.size + 1) 27 (.int .i64 0) ∧ Below w.heap.size w W ∧ okTo rr k)
        (fun c W => c = .ret ∧ Boxed W (w.heap.size + 1) 27 (.int .i64 1) ∧ Below w.heap.size w W ∧ badS rr)
        (fun k X Y row h hg hr => ⟨h.1.own hg hr, h.2.1.own (Nat.le_refl _) hg (by omega) hr, h.2.2⟩)
        (fun c _ X Y row h hg hr => ⟨h.1, h.2.1.own hg hr, h.2.2.1.own (Nat.le_refl _) hg (by omega) hr, h.2.2.2⟩)
        ⟨b1, hB, rfl⟩
        (fun k a' X => ∃ (i j : Nat) (s : Int) (vb : Nat), rr.flatten[k]? = some s ∧ V.heap.size ≤ vb ∧ Vis X vb i j s ∧ a' = { tmps := #[.agg #[.slice ao n cap], .pointer (some ⟨w.heap.size, 0, none⟩), .pointer (some ⟨w.heap.size + 1, 0, none⟩), .pointer (some ⟨vb, 0, none⟩), .pointer (some ⟨w.heap.size, 0, none⟩), .slice ao n cap, .int .i64 (n : Int), .bool false, .bool false, .agg #[.slice ao n cap], .int .i64 (m : Int), .bool false, .bool false, .agg #[.slice ao n cap], .func (.func 28) #[] #[.pointer (some ⟨w'.heap.size, 0, none⟩)], .agg #[.int .i64 (i : Int), .int .i64 (j : Int), .int .i64 s], undef, undef, undef, undef, undef, undef, undef, undef], defers := [] })
        (fun k a' _ X Y row h hg hr => by
          obtain ⟨i, j, s, vb, h1, h2, h3, h4⟩ := h
          exact ⟨i, j, s, vb, h1, h2, h3.own hg hr, h4⟩) ?assign ?body ?done ?stop
      case assign =>
        intro l k x X K hkN hVX hx hi hK
        obtain ⟨i, j, r, s, h1, h2, rfl, rfl⟩ := hx
        have hfl := Lib.hid (flat_get h1 h2)
        have HK := Lib.hid hK
        clear hK h1 h2
        gi_wp2
        exact HK.out _ _ ((RF.refl X).alloc _) ⟨hi.1.alloc _, hi.2.1.alloc (by have := hi.2.1.size; omega) _, hi.2.2⟩ ⟨i, j, s, X.heap.size, hfl.out, hVX, Vis.new _ _ _ _, rfl⟩
      case body =>
        rintro l k a' X hkN hVl hlr ⟨c1, hB1, hH⟩ ⟨i, j, s, vb, h1, h2, h3, rfl⟩
        have hc1 := c1.cell
        have hf1 := c1.frozen
        have hc3 := h3.cell2
        have hne : vb ≠ w.heap.size + 1 := by omega
        have hall : Hid (((rr.flatten.take (k + 1)).all inS) = inS s) := by
          unfold Hid
          rw [take_snoc h1, List.all_append, show _ = true from hH]; simp
        have hbad : Hid (inS s = false → (rr.flatten.all inS) = false) := by
          intro h
          rw [List.all_eq_false]
          exact ⟨s, List.mem_of_getElem? h1, by rw [h]; simp⟩
        clear hlr h1 h3
        by_cases hs0 : s < 0
        · have d1 : decide (s < 0) = true := decide_eq_true hs0
          have hin : Hid (inS s = false) := by unfold Hid inS; rw [decide_eq_false (show ¬ 0 ≤ s by omega)]; rfl
          gi_wp2
          exact ⟨(RF.refl _).set c1 (butT_eq _ _) _, rfl, c1.set _, hB1.setCell (p := ⟨w.heap.size + 1, 0, none⟩) (by simp) _, hbad.out hin.out⟩
        · have d1 : decide (s < 0) = false := decide_eq_false hs0
          by_cases hs4 : 400 ≤ s
          · have d2 : decide (400 ≤ s) = true := decide_eq_true hs4
            have hin : Hid (inS s = false) := by unfold Hid inS; rw [decide_eq_false (show ¬ s ≤ 399 by omega)]; simp
            gi_wp2
            exact ⟨(RF.refl _).set c1 (butT_eq _ _) _, rfl, c1.set _, hB1.setCell (p := ⟨w.heap.size + 1, 0, none⟩) (by simp) _, hbad.out hin.out⟩
          · have d2 : decide (400 ≤ s) = false := decide_eq_false hs4
            have hin : Hid (inS s = true) := by unfold Hid inS; rw [decide_eq_true (show s ≤ 399 by omega), decide_eq_true (show 0 ≤ s by omega)]; rfl
            gi_wp2
            exact ⟨RF.refl _, c1, hB1, hall.out.trans hin.out⟩
      case done =>
        rintro D X hD ⟨c1, hB1, hH⟩ hK
        have hc1 := c1.cell
        have hf1 := c1.frozen
        have HC : Hid (checkE rr = 0) := by
          unfold Hid checkE
          rw [if_neg (by have := HN.out; have := HM.out; omega), if_pos]
          have h : _ = true := hH
          rw [many_flat, List.take_length] at h
          rw [stops_flat]; exact h
        gi_wp2
        rw [HC.out]
        have d1 := c1.set (.int .i64 0)
        have hK2 := (KeepsOthers.setCell X ⟨w.heap.size + 1, 0, none⟩ (.int .i64 0)).same D _ hK rfl
        refine ⟨by simp, .inl ⟨_, _, rfl, run_takeDeferred hK2, ?_⟩⟩
        exact ⟨.int .i64 0, by simp [results, Try.results10, go_sem, (d1.put _ hK2 rfl).cell], rfl, (hB1.setCell (p := ⟨w.heap.size + 1, 0, none⟩) (by simp) _).put (Nat.le_refl _) (by omega)⟩
      case stop =>
        rintro D c X hD ⟨rfl, c1, hB1, hH⟩ hK
        have HC : Hid (checkE rr = 1) := by
          unfold Hid checkE
          rw [if_neg (by have := HN.out; have := HM.out; omega), if_neg]
          rw [stops_flat]
          exact fun h => Bool.noConfusion ((show _ = false from hH).symm.trans h)
        gi_wp2
        rw [HC.out]
        refine ⟨by simp, .inl ⟨_, _, rfl, run_takeDeferred hK, ?_⟩⟩
        exact ⟨.int .i64 1, by simp [results, Try.results10, go_sem, (c1.put _ hK rfl).cell], rfl, hB1.put (Nat.le_refl _) (by omega)⟩
#print axioms Try.Check_calls
end Go.Proofs
