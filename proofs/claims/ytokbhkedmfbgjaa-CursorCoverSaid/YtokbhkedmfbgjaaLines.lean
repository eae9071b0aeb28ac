/- The iterator cursor.lines of this program: it tells the lines of a text. Conditions: a text of at most a million bytes. -/
import Derived.Test.YtokbhkedmfbgjaaLineOf
import Derived.Test.YtokbhkedmfbgjaaRound
namespace Go.Proofs
open Go.RowKit Go.Shelf Go.Cur
attribute [local go_sem] Oper.semAt_some

theorem Try.lines_calls (s : ByteArray) (w : World) :
    Calls Try.prog 23 #[.string s] w fun e w' => e = .returned (.func (.func 27) #[] #[.pointer (some ⟨w.heap.size, 0, none⟩)]) ∧ w' = w.alloc (.cells #[.string s] 9) := by
  go_enter Try.func23, Try.ntmps23
  go_wp2
  go_ret
  exact ⟨rfl, rfl⟩

set_option maxRecDepth 100000 in
set_option maxHeartbeats 1000000 in
theorem Try.lines1_seq (Bs : Nat) (s : ByteArray) (w : World) (hs : s.size ≤ 1000000) (hB : Bs < w.heap.size) (hbox : Boxed w Bs 9 (.string s)) :
    Seq stillT Try.prog 27 #[.pointer (some ⟨Bs, 0, none⟩)] (linesV s) w := by
  intro l J Jx W hW hJ hJx hY h0
  have hbW : Boxed W Bs 9 (.string s) := (hW.block Bs hB).trans hbox
  have hBW : Bs < W.heap.size := hbW.lt
  have hcW := hbW.cell
  refine (callsIn_wide (n := 0)).1 (callsIn_of_wp_marks Try.func27 rfl trivial ?_ rfl)
  simp only [Try.ntmps27, List.size_toArray, List.length_cons, List.length_nil, Nat.reduceAdd, Nat.reduceSub, Array.replicate_succ, Array.replicate_zero, List.push_toArray, List.append_toArray, List.nil_append, List.cons_append]
  gi_wp2_with (refine ⟨trivial, rfl, ?_⟩; gi_at_call 25; refine (callsIn_wide.2 (Try.spans_calls _ _)).mono ?_; rintro e w' ⟨rfl, rfl⟩)
  obtain ⟨V, hV⟩ : ∃ V, V = (W.alloc (Obj.cells #[Value.func (Fn.yield l) #[] #[]] 53)).alloc (Obj.cells #[Value.string s] 9) := ⟨_, rfl⟩
  have hVs : V.heap.size = W.heap.size + 1 + 1 := by rw [hV]; simp
  have b0 : Boxed V W.heap.size 53 (.func (.yield l) #[] #[]) := by rw [hV]; exact (Boxed.new W 53 _).alloc _
  have b1 : Boxed V (W.heap.size + 1) 9 (.string s) := by rw [hV]; exact Boxed.at 9 _ (by simp)
  have b2 : Boxed V Bs 9 (.string s) := by rw [hV]; exact (hbW.alloc _).alloc _
  have j0 : J 0 V := by rw [hV]; exact hJ.alloc _ (hJ.alloc _ h0)
  rw [← hV]
  clear hV
  have hup : ∀ {X : World} {row : Option Nat}, (∀ r, row = some r → V.heap.size ≤ r ∧ ∃ o : Obj, X.heap[r]? = some o ∧ o.isCells = false) → (∀ r, row = some r → W.heap.size ≤ r ∧ ∃ o : Obj, X.heap[r]? = some o ∧ o.isCells = false) :=
    fun hr r e => ⟨by have := (hr r e).1; omega, (hr r e).2⟩
  refine range_seq (gf := 29) (lb := #[.pointer (some ⟨W.heap.size + 1, 0, none⟩)]) rfl (enters_of Try.func29 (by kernel_rfl) rfl)
    (Try.spans1_seq _ s V (by unfold maxLen; omega) (by omega) b1) (Below.refl _ _) (fun k x h => by obtain ⟨a, b, rfl, _⟩ := spansV_get h; rfl)
    (fun k X => Boxed X W.heap.size 53 (.func (.yield l) #[] #[]) ∧ Boxed X Bs 9 (.string s) ∧ k ≤ (linesV s).length ∧ J k X)
    (fun c X => c = .ret ∧ (J (linesV s).length X ∨ Jx X))
    (fun k X Y row h hg hr => ⟨h.1.own hg hr, h.2.1.own hg hr, h.2.2.1, hJ k X Y row h.2.2.2 hg (hup hr)⟩)
    (fun c _ X Y row h hg hr => ⟨h.1, h.2.imp (fun h => hJ _ X Y row h hg (hup hr)) (fun h => hJx () X Y row h hg (hup hr))⟩)
    ⟨b0, b2, Nat.zero_le _, j0⟩
    (fun x a' _ => a' = { tmps := #[.func (.yield l) #[] #[], .pointer (some ⟨Bs, 0, none⟩), .pointer (some ⟨W.heap.size, 0, none⟩), x[0]!, x[1]!, .string s, .func (.func 29) #[] #[.pointer (some ⟨W.heap.size + 1, 0, none⟩)], x[0]!, x[1]!, undef, undef, undef, undef, undef, undef, undef, undef, undef, undef, undef, undef, undef], defers := [] })
    (fun _ _ _ _ _ _ h _ _ => h) ?assign ?body ?done ?stop
  case assign =>
    intro l k x W K hx hi hK
    obtain ⟨a, b, rfl, hx⟩ := spansV_get hx
    gi_wp2
    exact hK _ _ (RF.refl _) hi rfl
  case body =>
    rintro l' k x a' X hx0 ⟨c0, c1, hk, hj⟩ rfl
    obtain ⟨a, b, rfl, hx⟩ := spansV_get hx0
    clear hx0
    have hc0 := c0.cell
    have hc1 := c1.cell
    obtain ⟨hab, hbl, hkl⟩ := spans_get hx
    simp only [Array.length_toList, show s.data.size = s.size from rfl] at hbl hkl
    have hmx : Try.prog.follows .mixedOrders = true := by kernel_rfl
    have hfn : ∀ f, Fence.wide.fn f := fun _ => trivial
    have hdp : Fence.wide.depth = none := rfl
    have hll : (linesV s).length = ((spans s.data.toList).takeWhile fun p => p.1 != s.data.toList.length).length := by simp [linesV, lines]
    have hst := takeWhile_step (p := fun p : Nat × Nat => p.1 != s.data.toList.length) (by rw [← hll]; exact hk) hx
    by_cases ha : a = s.size
    · have hae : (((a : Nat) : Int) == (s.size : Int)) = true := by rw [beq_iff_eq]; omega
      have hkk : (linesV s).length = k := by rw [hll]; exact hst.2 (by simp [ha])
      have Hk := Lib.hid hkk
      clear hst hll hkk hx ha hY
      simp only [List.getElem!_toArray, List.getElem!_cons_zero, List.getElem!_cons_succ]
      gi_wp2
      refine wpIn_region_quiet_round rfl hmx (by kernel_rfl) (by kernel_rfl) ?_
      repeat (gi_big_quiet_step (fail))
      refine wpQuietIn_nil ?_
      intro _ hw1
      obtain ⟨nq, hw2⟩ := hw1
      subst hw2
      gi_wp2
      rw [Hk.out]
      exact ⟨⟨Nat.le_refl _, fun _ _ _ h _ => h, fun _ _ _ _ _ h => h⟩, rfl, .inl (hJ k X _ none hj ⟨rfl, rfl, rfl, Nat.le_refl _, fun _ _ _ => rfl⟩ (fun r e => by cases e))⟩
    · have hae : (((a : Nat) : Int) == (s.size : Int)) = false := by rw [beq_eq_false_iff_ne]; omega
      obtain ⟨hst1, hst2⟩ := hst.1 (by simpa using ha)
      have hxl : (linesV s)[k]? = some #[lineV (lineAt s.data.toList (a, b))] := by simp only [linesV, lines, List.getElem?_map, hst1, Option.map_some]
      have hkk : k + 1 ≤ (linesV s).length := by rw [hll]; exact hst2
      have hY1 : ∀ w1, Below X.heap.size X w1 → ∃ fn tmps assign body, (Instr.yield l #[lineV (lineAt s.data.toList (a, b))]).run Try.prog w1 = .ok (.round l fn tmps assign body) w1 ∧
          RoundIn (Fence.wide.inRound l') 0 Try.prog l fn tmps assign body w1 fun e W' => ∃ bb, e = .returned (.bool bb) ∧ RF stillT W.heap.size w1 W' ∧ ((bb = true ∧ J (k + 1) W') ∨ (bb = false ∧ Jx W')) := by
        intro w1 hb1
        obtain ⟨fn, tmps, assign, body, hy, hR⟩ := hY k _ w1 hxl (hJ.below hj hb1 (Nat.le_refl _))
        refine ⟨fn, tmps, assign, body, hy, (hR.mono ?_).into l'⟩
        rintro e W' ⟨h1, ⟨rfl, h2⟩ | ⟨rfl, h2⟩⟩
        · exact ⟨true, rfl, h1, .inl ⟨rfl, h2⟩⟩
        · exact ⟨false, rfl, h1, .inr ⟨rfl, h2⟩⟩
      have HY := Lib.hid hY1
      have hlt0 : W.heap.size < X.heap.size := c0.lt
      have hltB : Bs < X.heap.size := c1.lt
      obtain ⟨lv, hlv⟩ : ∃ lv, lv = lineV (lineAt s.data.toList (a, b)) := ⟨_, rfl⟩
      clear hst hll hx ha hY hY1 hst1 hst2 hxl
      have hlo := fun w1 : World => Try.lineOf_calls s a b w1 hs hab hbl
      rw [← hlv] at HY hlo
      have HL := Lib.hid hlo
      clear hlv hlo
      simp only [List.getElem!_toArray, List.getElem!_cons_zero, List.getElem!_cons_succ]
      gi_wp2
      refine wpIn_region_round rfl hmx (by kernel_rfl) ?_
      refine wpAnyIn_take (i := 0) (v := ?_) rfl rfl (by kernel_rfl) (by kernel_rfl) (by kernel_rfl) (fun _ _ _ h => h) ⟨Or.inl ⟨by rfl, ?_⟩, fun _ => rfl⟩ ?_
      rotate_left
      · (intro w0; go_simp; try with_reducible rfl)
      refine wpAnyIn_ready (rs := [1]) (by kernel_rfl) (by simp) (AllReadyIn.cons rfl (fun K hK => ?_) AllReadyIn.nil); go_simp; refine hK _ _ ?_; clear hK K
      refine wpAnyIn_ready (rs := [2]) (by kernel_rfl) (by simp) (AllReadyIn.cons rfl (fun K hK => ?_) AllReadyIn.nil); go_simp; refine hK _ _ ?_; clear hK K
      refine wpAnyIn_ready (rs := [3]) (by kernel_rfl) (by simp) (AllReadyIn.cons rfl (fun K hK => ?_) AllReadyIn.nil); go_simp; refine hK _ _ ?_; clear hK K
      refine wpAnyIn_ready (rs := [4]) (by kernel_rfl) (by simp) (AllReadyIn.cons rfl (fun K hK => ?_) AllReadyIn.nil); go_simp; refine hK _ _ ?_; clear hK K
      refine wpAnyIn_take (i := 7) (v := ?_) rfl rfl (by kernel_rfl) (by kernel_rfl) (by kernel_rfl) (fun _ _ _ h => h) ⟨Or.inl ⟨by rfl, ?_⟩, fun _ => rfl⟩ ?_
      rotate_left
      · (intro w0; go_simp; try with_reducible rfl)
      refine wpAnyIn_take (i := 8) (v := ?_) rfl rfl (by kernel_rfl) (by kernel_rfl) (by kernel_rfl) (fun _ _ _ h => h) ⟨Or.inl ⟨by rfl, ?_⟩, fun _ => rfl⟩ ?_
      rotate_left
      · (intro w0; go_simp; try with_reducible rfl)
      refine wpAnyIn_ready (rs := [5, 6]) (by kernel_rfl) (by simp) (AllReadyIn.cons rfl (fun K hK => ?_) (AllReadyIn.cons rfl (fun K hK => ?_) AllReadyIn.nil))
      · go_simp; refine hK _ _ ?_; clear hK K
        refine wpAnyIn_ready (rs := [6]) (by kernel_rfl) (by simp) (AllReadyIn.cons rfl (fun K hK => ?_) AllReadyIn.nil); go_simp; refine hK _ _ ?_; clear hK K
        refine wpAnyIn_ready (rs := [9]) (by kernel_rfl) (by simp) (AllReadyIn.cons rfl (fun K hK => ?_) AllReadyIn.nil); go_simp; refine (callsIn_wide.2 (HL.out _)).mono ?_; rintro e w1 ⟨rfl, hb1⟩; refine hK _ _ ?_; clear hK K
        have hb2 : Below X.heap.size X w1 := (Below.refl _ _).drew.trans hb1
        obtain ⟨fn, tmps, assign, body, hy, hR⟩ := HY.out w1 hb2
        refine wpAnyIn_ready (rs := [10]) (by kernel_rfl) (by simp) (AllReadyIn.cons rfl (fun K hK => ?_) AllReadyIn.nil); go_simp; refine hR.mono ?_; rintro e w2 ⟨bb, rfl, hrf, hor⟩; refine hK _ _ ?_; clear hK K
        refine wpAnyIn_ready (rs := [11]) (by kernel_rfl) (by simp) (AllReadyIn.cons rfl (fun K hK => ?_) AllReadyIn.nil); go_simp; refine hK _ _ ?_; clear hK K
        refine wpAnyIn_ready (rs := [12]) (by kernel_rfl) (by simp) (AllReadyIn.cons rfl (fun K hK => ?_) AllReadyIn.nil); go_simp; refine hK _ _ ?_; clear hK K
        refine wpAnyIn_done (by kernel_rfl) ?_ _
        have hrf2 : RF stillT V.heap.size X w2 := ((RF.refl X).below hb2 (Nat.le_refl _)).trans (hrf.mono (by omega))
        rcases hor with ⟨rfl, h2⟩ | ⟨rfl, h2⟩
        · gi_wp2
          exact ⟨hrf2, hrf2.boxed c0 rfl, hrf2.boxed c1 rfl, hkk, h2⟩
        · gi_wp2
          exact ⟨hrf2, rfl, .inr h2⟩
      · go_simp; refine hK _ _ ?_; clear hK K
        refine wpAnyIn_ready (rs := [5, 9]) (by kernel_rfl) (by simp) (AllReadyIn.cons rfl (fun K hK => ?_) (AllReadyIn.cons rfl (fun K hK => ?_) AllReadyIn.nil))
        · go_simp; refine hK _ _ ?_; clear hK K
          refine wpAnyIn_ready (rs := [9]) (by kernel_rfl) (by simp) (AllReadyIn.cons rfl (fun K hK => ?_) AllReadyIn.nil); go_simp; refine (callsIn_wide.2 (HL.out _)).mono ?_; rintro e w1 ⟨rfl, hb1⟩; refine hK _ _ ?_; clear hK K
          have hb2 : Below X.heap.size X w1 := (Below.refl _ _).drew.trans hb1
          obtain ⟨fn, tmps, assign, body, hy, hR⟩ := HY.out w1 hb2
          refine wpAnyIn_ready (rs := [10]) (by kernel_rfl) (by simp) (AllReadyIn.cons rfl (fun K hK => ?_) AllReadyIn.nil); go_simp; refine hR.mono ?_; rintro e w2 ⟨bb, rfl, hrf, hor⟩; refine hK _ _ ?_; clear hK K
          refine wpAnyIn_ready (rs := [11]) (by kernel_rfl) (by simp) (AllReadyIn.cons rfl (fun K hK => ?_) AllReadyIn.nil); go_simp; refine hK _ _ ?_; clear hK K
          refine wpAnyIn_ready (rs := [12]) (by kernel_rfl) (by simp) (AllReadyIn.cons rfl (fun K hK => ?_) AllReadyIn.nil); go_simp; refine hK _ _ ?_; clear hK K
          refine wpAnyIn_done (by kernel_rfl) ?_ _
          have hrf2 : RF stillT V.heap.size X w2 := ((RF.refl X).below hb2 (Nat.le_refl _)).trans (hrf.mono (by omega))
          rcases hor with ⟨rfl, h2⟩ | ⟨rfl, h2⟩
          · gi_wp2
            exact ⟨hrf2, hrf2.boxed c0 rfl, hrf2.boxed c1 rfl, hkk, h2⟩
          · gi_wp2
            exact ⟨hrf2, rfl, .inr h2⟩
        · go_simp; refine (callsIn_wide.2 (HL.out _)).mono ?_; rintro e w1 ⟨rfl, hb1⟩; refine hK _ _ ?_; clear hK K
          have hc0' : w1.cell? ⟨W.heap.size, 0, none⟩ = some (.func (.yield l) #[] #[]) := (hb1.cell (p := ⟨W.heap.size, 0, none⟩) hlt0).trans hc0
          refine wpAnyIn_ready (rs := [5]) (by kernel_rfl) (by simp) (AllReadyIn.cons rfl (fun K hK => ?_) AllReadyIn.nil); go_simp; refine hK _ _ ?_; clear hK K
          have hb2 : Below X.heap.size X w1 := (Below.refl _ _).drew.trans hb1
          obtain ⟨fn, tmps, assign, body, hy, hR⟩ := HY.out w1 hb2
          refine wpAnyIn_ready (rs := [10]) (by kernel_rfl) (by simp) (AllReadyIn.cons rfl (fun K hK => ?_) AllReadyIn.nil); go_simp; refine hR.mono ?_; rintro e w2 ⟨bb, rfl, hrf, hor⟩; refine hK _ _ ?_; clear hK K
          refine wpAnyIn_ready (rs := [11]) (by kernel_rfl) (by simp) (AllReadyIn.cons rfl (fun K hK => ?_) AllReadyIn.nil); go_simp; refine hK _ _ ?_; clear hK K
          refine wpAnyIn_ready (rs := [12]) (by kernel_rfl) (by simp) (AllReadyIn.cons rfl (fun K hK => ?_) AllReadyIn.nil); go_simp; refine hK _ _ ?_; clear hK K
          refine wpAnyIn_done (by kernel_rfl) ?_ _
          have hrf2 : RF stillT V.heap.size X w2 := ((RF.refl X).below hb2 (Nat.le_refl _)).trans (hrf.mono (by omega))
          rcases hor with ⟨rfl, h2⟩ | ⟨rfl, h2⟩
          · gi_wp2
            exact ⟨hrf2, hrf2.boxed c0 rfl, hrf2.boxed c1 rfl, hkk, h2⟩
          · gi_wp2
            exact ⟨hrf2, rfl, .inr h2⟩
  case done =>
    rintro D X hD ⟨c0, c1, hk, hj⟩ hK
    gi_wp2
    refine ⟨by simp, .inl ⟨_, _, rfl, run_takeDeferred hK, ?_⟩⟩
    refine ⟨_, results_none rfl _ _ _, ⟨_, rfl⟩, .inl ?_⟩
    have he : (spansV s).length = (linesV s).length := by
      have h1 : (linesV s).length ≤ (spansV s).length := by simp only [linesV, lines, spansV, List.length_map]; exact (List.takeWhile_sublist _).length_le
      omega
    rw [← he]
    exact hJ.putObj _ hj (by omega) hK rfl
  case stop =>
    rintro D r X hD ⟨rfl, hj⟩ hK
    gi_wp2
    refine ⟨by simp, .inl ⟨_, _, rfl, run_takeDeferred hK, ?_⟩⟩
    refine ⟨_, results_none rfl _ _ _, ⟨_, rfl⟩, ?_⟩
    exact hj.imp (fun h => hJ.putObj _ h (by omega) hK rfl) (fun h => hJx.putObj (s := ()) _ h (by omega) hK rfl)
#print axioms Try.lines1_seq
end Go.Proofs
