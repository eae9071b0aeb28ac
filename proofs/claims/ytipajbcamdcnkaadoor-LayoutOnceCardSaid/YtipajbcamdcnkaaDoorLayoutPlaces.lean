/- The iterator layout.places of this program: it tells lines and cells of a layout, in its order. Conditions: a layout of 1 to 7, 400 rows at most. -/
import Derived.Test.YtipajbcamdcnkaaDoorLayoutCount
import Derived.Test.YtipajbcamdcnkaaDoorSeqO
import Derived.Test.YtipajbcamdcnkaaDoorRound
namespace Go.Proofs
open Go.RowKit Go.Shelf Go.Layout
attribute [local go_sem] Oper.semAt_some

def stepV (p : Nat × Nat) : Array Value := #[.int .i64 (p.1 : Int), .int .i64 (p.2 : Int)]
def stepsV (k n : Nat) : List (Array Value) := (steps k n).map stepV
theorem stepsV_length (k n : Nat) : (stepsV k n).length = rowsUp k n n := by rw [stepsV, List.length_map, steps_length]
theorem stepsV_get {k n t : Nat} {x : Array Value} (h : (stepsV k n)[t]? = some x) : ∃ a b : Nat, x = #[.int .i64 (a : Int), .int .i64 (b : Int)] ∧ (steps k n)[t]? = some (a, b) ∧ a < n ∧ b < n := by
  simp only [stepsV, List.getElem?_map, Option.map_eq_some_iff] at h
  obtain ⟨⟨a, b⟩, h1, rfl⟩ := h
  have := (mem_steps.1 (List.mem_of_getElem? h1)).1
  exact ⟨a, b, rfl, h1, this.1, this.2⟩
theorem stepsV_at {k n r c : Nat} (hk : 1 ≤ k) (hk7 : k ≤ 7) (hr : r < n) (h1 : beg k r ≤ c) (h2 : c < fin k n r) : (stepsV k n)[rowsUp k n r + (c - beg k r)]? = some #[.int .i64 (r : Int), .int .i64 (c : Int)] := by
  have hf := beg_le hk hk7 hr
  have ht : told k r c = true := by rw [told_span (n := n) hk hk7 (by omega)]; simp [h1, h2]
  have := steps_get hr (show c < n by omega) ht
  rw [rowUp_in hk hk7 hr (by omega)] at this
  simp [stepsV, this, stepV]

theorem Tryd.places_calls (k n : Int) (w : World) :
    Calls Tryd.prog 38 #[.int .i64 k, .int .i64 n] w fun e w' => e = .returned (.func (.func 39) #[] #[.pointer (some ⟨w.heap.size, 0, none⟩), .pointer (some ⟨w.heap.size + 1, 0, none⟩)]) ∧ w' = (w.alloc (.cells #[.int .i64 k] 3)).alloc (.cells #[.int .i64 n] 3) := by
  go_enter Tryd.func38, Tryd.ntmps38
  go_wp2
  go_ret
  exact ⟨by simp, rfl⟩

set_option maxRecDepth 100000 in
set_option maxHeartbeats 2000000 in
theorem Tryd.places1_seq (T : Nat → TypeId → Bool) (Bk Bn k n : Nat) (w : World) (hk : 1 ≤ k) (hk7 : k ≤ 7) (hn4 : n ≤ 400)
    (hbk : Boxed w Bk 3 (.int .i64 (k : Int))) (hbn : Boxed w Bn 3 (.int .i64 (n : Int))) :
    SeqO 4 T Tryd.prog 39 #[.pointer (some ⟨Bk, 0, none⟩), .pointer (some ⟨Bn, 0, none⟩)] (stepsV k n) w := by
  intro l J Jx W hW hJ hJx hY h0
  have hkW : Boxed W Bk 3 (.int .i64 (k : Int)) := (hW.block Bk hbk.lt).trans hbk
  have hnW : Boxed W Bn 3 (.int .i64 (n : Int)) := (hW.block Bn hbn.lt).trans hbn
  have hcn := hnW.cell
  have hck := hkW.cell
  have hlk := hkW.lt
  have hln := hnW.lt
  refine (callsIn_wide (n := 0)).1 (callsIn_of_wp_marks Tryd.func39 rfl trivial ?_ rfl)
  simp only [Tryd.ntmps39, List.size_toArray, List.length_cons, List.length_nil, Nat.reduceAdd, Nat.reduceSub, Array.replicate_succ, Array.replicate_zero, List.push_toArray, List.append_toArray, List.nil_append, List.cons_append]
  gi_wp2_with (refine ⟨trivial, rfl, ?_⟩; gi_at_call 24; refine (callsIn_wide.2 (Tryd.spans_calls _ _ _)).mono ?_; rintro e w' ⟨rfl, rfl⟩)
  obtain ⟨V, hV⟩ : ∃ V, V = (((W.alloc (Obj.cells #[Value.func (Fn.yield l) #[] #[]] 36)).alloc (Obj.cells #[Value.int IntKind.i64 0] 3)).alloc (Obj.cells #[Value.int IntKind.i64 (k : Int)] 3)).alloc (Obj.cells #[Value.int IntKind.i64 (n : Int)] 3) := ⟨_, rfl⟩
  have hVs : V.heap.size = W.heap.size + 1 + 1 + 1 + 1 := by rw [hV]; simp
  have b0 : Boxed V W.heap.size 36 (.func (.yield l) #[] #[]) := by rw [hV]; exact (((Boxed.new W 36 _).alloc _).alloc _).alloc _
  have b1 : Boxed V (W.heap.size + 1) 3 (.int .i64 ((0 : Nat) : Int)) := by rw [hV]; exact ((Boxed.at 3 _ (by simp)).alloc _).alloc _
  have b2 : Boxed V (W.heap.size + 1 + 1) 3 (.int .i64 (k : Int)) := by rw [hV]; exact (Boxed.at 3 _ (by simp)).alloc _
  have b3 : Boxed V (W.heap.size + 1 + 1 + 1) 3 (.int .i64 (n : Int)) := by rw [hV]; exact Boxed.at 3 _ (by simp)
  have j0 : J 0 V := by rw [hV]; exact hJ.from.alloc _ (hJ.from.alloc _ (hJ.from.alloc _ (hJ.from.alloc _ h0)))
  rw [← hV]
  clear hV
  have hup : ∀ {X : World} {row : Option Nat}, (∀ r, row = some r → V.heap.size ≤ r ∧ ∃ o : Obj, X.heap[r]? = some o ∧ o.isCells = false) → (∀ r, row = some r → W.heap.size ≤ r ∧ ∃ o : Obj, X.heap[r]? = some o ∧ o.isCells = false) :=
    fun hr r e => ⟨by have := (hr r e).1; omega, (hr r e).2⟩
  refine range_seq (T := fun b _ => b == W.heap.size + 1 + 1 || b == W.heap.size + 1 + 1 + 1) (gf := 34) (lb := #[.pointer (some ⟨W.heap.size + 1 + 1 + 1, 0, none⟩), .pointer (some ⟨W.heap.size + 1 + 1, 0, none⟩)]) rfl enters34
    (Tryd.spans1_seq _ (W.heap.size + 1 + 1) (W.heap.size + 1 + 1 + 1) k n V hk hk7 hn4 (by simp) (by simp) b2 b3) (Below.refl _ _) (fun r x h => by obtain ⟨rfl, _⟩ := linesV_get h; rfl)
    (fun r X => Boxed X W.heap.size 36 (.func (.yield l) #[] #[]) ∧ Boxed X (W.heap.size + 1) 3 (.int .i64 (r : Int)) ∧ W.heap.size + 4 ≤ X.heap.size ∧ J (rowsUp k n r) X)
    (fun c X => c = .ret ∧ Jx X)
    (fun r X Y row h hg hr => ⟨h.1.own hg hr, h.2.1.own hg hr, Nat.le_trans h.2.2.1 hg.size, hJ.from _ X Y row h.2.2.2 hg (hup hr)⟩)
    (fun c _ X Y row h hg hr => ⟨h.1, hJx.from () X Y row h.2 hg (hup hr)⟩)
    ⟨b0, b1, by omega, j0⟩
    (fun x a' _ => a' = { tmps := #[.func (.yield l) #[] #[], .pointer (some ⟨Bk, 0, none⟩), .pointer (some ⟨Bn, 0, none⟩), .pointer (some ⟨W.heap.size, 0, none⟩), .pointer (some ⟨W.heap.size + 1, 0, none⟩), x[0]!, x[1]!, undef, .int .i64 (k : Int), .int .i64 (n : Int), .func (.func 34) #[] #[.pointer (some ⟨W.heap.size + 1 + 1 + 1, 0, none⟩), .pointer (some ⟨W.heap.size + 1 + 1, 0, none⟩)], x[0]!, x[1]!, undef, undef, undef, undef, undef, undef, undef, undef, undef, undef, undef, undef, undef], defers := [] })
    (fun _ _ _ _ _ _ h _ _ => h) ?assign ?body ?done ?stop
  case assign =>
    intro l r x W K hx hi hK
    obtain ⟨rfl, hr⟩ := linesV_get hx
    clear hx
    gi_wp2
    exact hK _ _ (RF.refl _) hi rfl
  case body =>
    rintro l' r x a' X hx ⟨c0, c1, hsz, hj⟩ rfl
    obtain ⟨rfl, hr⟩ := linesV_get hx
    clear hx
    have hf := beg_le hk hk7 hr
    have hat := fun c h1 h2 => stepsV_at (k := k) (n := n) (r := r) (c := c) hk hk7 hr h1 h2
    have hnext : Hid (rowsUp k n (r + 1) = rowsUp k n r + (fin k n r - beg k r)) := by
      unfold Hid; rw [rowsUp_next, rowUp_all hk hk7 hr]
    obtain ⟨u, hu⟩ : ∃ u, rowsUp k n r = u := ⟨_, rfl⟩
    obtain ⟨q, hq⟩ : ∃ q, fin k n r = q := ⟨_, rfl⟩
    obtain ⟨p, hp⟩ : ∃ p, beg k r = p := ⟨_, rfl⟩
    rw [hu, hq, hp] at hnext
    rw [hq, hp] at hf
    rw [hu] at hj hat
    rw [hp, hq] at hat ⊢
    have HAT := Lib.hid hat
    obtain ⟨hf1, hf2⟩ := hf
    clear hat hu hq hp
    have hcc0 := c0.cell
    have hcc1 := c1.cell
    simp only [List.getElem!_toArray, List.getElem!_cons_zero, List.getElem!_cons_succ]
    gi_wp2
    gi_loopw [7] (fun v X1 => ∃ c : Nat, p ≤ c ∧ c ≤ q ∧ v = .int .i64 (c : Int) ∧ Boxed X1 W.heap.size 36 (.func (.yield l) #[] #[]) ∧ Boxed X1 (W.heap.size + 1) 3 (.int .i64 (r : Int)) ∧ W.heap.size + 4 ≤ X1.heap.size ∧ J (u + (c - p)) X1 ∧ RF (fun b _ => b == W.heap.size + 1 + 1 || b == W.heap.size + 1 + 1 + 1) V.heap.size X X1)
      (fun v _ => q - (intOf v).toNat)
    case atStart => exact ⟨p, Nat.le_refl _, hf1, rfl, c0, c1, hsz, by rw [Nat.sub_self]; exact hj, RF.refl _⟩
    case round =>
      obtain ⟨c, hc1, hc2, rfl, d0, d1, hsz1, hj1, hrf⟩ := hrel
      have hd0 := d0.cell
      have hd1 := d1.cell
      by_cases hlt : c < q
      · obtain ⟨fn, tmps, assign, body, hy, hR⟩ := hY _ _ _ (HAT.out c hc1 hlt) hsz1 hj1
        have HR := Lib.hid (hR.into l')
        clear hR hY
        gi_wp2
        refine ⟨rfl, HR.out.mono ?_⟩
        rintro e X3 ⟨hrf3, (⟨rfl, hJ3⟩ | ⟨rfl, hJx3⟩)⟩
        · have e0 := hrf3.boxed d0 (keepO_own _ (Nat.le_refl _) (by omega))
          have e1 := hrf3.boxed d1 (keepO_own _ (by omega) (by omega))
          have hrf4 := hrf.trans ((hrf3.sub (T' := fun b _ => b == W.heap.size + 1 + 1 || b == W.heap.size + 1 + 1 + 1) (fun b t h => by simp at h; exact keepO_own _ (by omega) (by omega))).mono (by omega))
          have hsz3 := Nat.le_trans hsz1 hrf3.size
          have hJ4 : J (u + (c + 1 - p)) X3 := by rw [show u + (c + 1 - p) = u + (c - p) + 1 by omega]; exact hJ3
          gi_wp2
          go_roundw
          case rel => exact ⟨c + 1, by omega, by omega, by go_num, e0, e1, hsz3, hJ4, hrf4⟩
          case measure => simp [intOf]; omega
        · have hrf4 := hrf.trans ((hrf3.sub (T' := fun b _ => b == W.heap.size + 1 + 1 || b == W.heap.size + 1 + 1 + 1) (fun b t h => by simp at h; exact keepO_own _ (by omega) (by omega))).mono (by omega))
          gi_wp2
          exact ⟨hrf4, rfl, hJx3⟩
      · obtain rfl : c = q := by omega
        clear hY
        have hf1' := d1.frozen
        have hrf4 := hrf.set d1 (by simp) (.int .i64 ((r : Int) + 1))
        gi_wp2
        refine ⟨hrf4, d0.other (by omega) _, ?_, ?_, ?_⟩
        · rw [show (((r + 1 : Nat) : Int)) = (r : Int) + 1 by omega]; exact d1.set _
        · simp; omega
        · rw [hnext.out]
          exact hJ.setOwn _ hj1 (by omega) (by omega)
  case done =>
    rintro D X hD ⟨c0, c1, hsz, hj⟩ hK
    rw [linesV_length, ← stepsV_length] at hj
    gi_wp2
    refine ⟨by simp, .inl ⟨_, _, rfl, run_takeDeferred hK, ?_⟩⟩
    exact ⟨_, results_none rfl _ _ _, ⟨_, rfl⟩, .inl (hJ.from.putObj _ hj (by omega) hK rfl)⟩
  case stop =>
    rintro D c X hD ⟨rfl, hj⟩ hK
    gi_wp2
    refine ⟨by simp, .inl ⟨_, _, rfl, run_takeDeferred hK, ?_⟩⟩
    exact ⟨_, results_none rfl _ _ _, ⟨_, rfl⟩, .inr (hJx.from.putObj (s := ()) _ hj (by omega) hK rfl)⟩
#print axioms Tryd.places1_seq
end Go.Proofs
