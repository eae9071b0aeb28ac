/- layout.Count of this program. Conditions: none. -/
import Derived.Test.YtipajbcamdcnkaaDoorLayoutLines
import Derived.Test.YtipajbcamdcnkaaDoorLayoutIndex
namespace Go.Proofs
open Go.RowKit Go.Shelf Go.Layout
attribute [local go_sem] Oper.semAt_some

theorem enters34 : ∀ args w, (callFunc 34 args).run Tryd.prog w = .ok (.enter 34 args) w := enters_of Tryd.func34 (by kernel_rfl) rfl
theorem rowsUp_most {k n a : Nat} (hn4 : n ≤ 400) (ha : a ≤ n) : rowsUp k n a ≤ 160000 := by
  have h1 := rowsUp_le k n a
  have h2 : a * n ≤ 400 * 400 := Nat.mul_le_mul (Nat.le_trans ha hn4) hn4
  omega

set_option maxRecDepth 100000 in
set_option maxHeartbeats 1000000 in
theorem Tryd.Count_in (k n : Nat) (w : World) (hk : 1 ≤ k) (hk7 : k ≤ 7) (hn : 1 ≤ n) (hn4 : n ≤ 400) :
    Calls Tryd.prog 10 #[.int .i64 (k : Int), .int .i64 (n : Int)] w fun e w' => e = .returned (.int .i64 (count k n : Int)) ∧ Below w.heap.size w w' := by
  have M := fun (w : World) => Tryd.may_calls k n w
  rw [mayB_nat hk hk7 hn hn4] at M
  refine (callsIn_wide (n := 0)).1 (callsIn_of_wp_marks Tryd.func10 rfl trivial ?_ rfl)
  simp only [Tryd.ntmps10, List.size_toArray, List.length_cons, List.length_nil, Nat.reduceAdd, Nat.reduceSub, Array.replicate_succ, Array.replicate_zero, List.push_toArray, List.append_toArray, List.nil_append, List.cons_append]
  gi_wp2_with (first
    | (refine ⟨trivial, rfl, ?_⟩; gi_at_call 23; refine (callsIn_wide.2 (M _)).mono ?_; rintro e w1 ⟨rfl, hw1⟩; obtain rfl : w = w1 := hw1.symm)
    | (refine ⟨trivial, rfl, ?_⟩; gi_at_call 24; refine (callsIn_wide.2 (Tryd.spans_calls _ _ _)).mono ?_; rintro e w' ⟨rfl, rfl⟩))
  obtain ⟨V, hV⟩ : ∃ V, V = ((w.alloc (Obj.cells #[Value.int IntKind.i64 0] 3)).alloc (Obj.cells #[Value.int IntKind.i64 (k : Int)] 3)).alloc (Obj.cells #[Value.int IntKind.i64 (n : Int)] 3) := ⟨_, rfl⟩
  have hVs : V.heap.size = w.heap.size + 1 + 1 + 1 := by rw [hV]; simp
  have b0 : Boxed V w.heap.size 3 (.int .i64 0) := by rw [hV]; exact ((Boxed.new w 3 _).alloc _).alloc _
  have b1 : Boxed V (w.heap.size + 1) 3 (.int .i64 (k : Int)) := by rw [hV]; exact (Boxed.at 3 _ (by simp)).alloc _
  have b2 : Boxed V (w.heap.size + 1 + 1) 3 (.int .i64 (n : Int)) := by rw [hV]; exact Boxed.at 3 _ (by simp)
  have hB : Below w.heap.size w V := by rw [hV]; exact (((Below.refl _ w).alloc (Nat.le_refl _) _).alloc (by simp) _).alloc (by simp; omega) _
  rw [← hV]
  clear hV
  refine range_seq (T := fun b _ => b == w.heap.size + 1 || b == w.heap.size + 1 + 1) (gf := 34) (lb := #[.pointer (some ⟨w.heap.size + 1 + 1, 0, none⟩), .pointer (some ⟨w.heap.size + 1, 0, none⟩)]) rfl enters34
    (Tryd.spans1_seq _ (w.heap.size + 1) (w.heap.size + 1 + 1) k n V hk hk7 hn4 (by simp) (by simp) b1 b2) (Below.refl _ _) (fun r x h => by obtain ⟨rfl, _⟩ := linesV_get h; rfl)
    (fun r W => Boxed W w.heap.size 3 (.int .i64 ((rowsUp k n r : Nat) : Int)) ∧ Below w.heap.size w W)
    (fun _ _ => False)
    (fun r X Y row h hg hr => ⟨h.1.own hg hr, h.2.own (Nat.le_refl _) hg (by omega) hr⟩)
    (fun _ _ _ _ _ h _ _ => h)
    ⟨b0, hB⟩
    (fun x a' _ => a' = { tmps := #[.int .i64 (k : Int), .int .i64 (n : Int), undef, undef, .int .i64 0, .pointer (some ⟨w.heap.size, 0, none⟩), x[0]!, x[1]!, .int .i64 (k : Int), .int .i64 (n : Int), .bool true, .bool false, .int .i64 (k : Int), .int .i64 (n : Int), .func (.func 34) #[] #[.pointer (some ⟨w.heap.size + 1 + 1, 0, none⟩), .pointer (some ⟨w.heap.size + 1, 0, none⟩)], x[0]!, x[1]!, undef, undef, undef, undef, undef, undef], defers := [] })
    (fun _ _ _ _ _ _ h _ _ => h) ?assign ?body ?done ?stop
  case assign =>
    intro l r x W K hx hi hK
    obtain ⟨rfl, hr⟩ := linesV_get hx
    clear hx
    gi_wp2
    exact hK _ _ (RF.refl _) hi rfl
  case body =>
    rintro l r x a' W hx ⟨c0, hB1⟩ rfl
    obtain ⟨rfl, hr⟩ := linesV_get hx
    clear hx
    obtain ⟨hp, hq⟩ := beg_le hk hk7 hr
    have hu := rowsUp_most (k := k) hn4 (Nat.le_of_lt hr)
    have hnext : Hid (((rowsUp k n (r + 1) : Nat) : Int) = ((rowsUp k n r : Nat) : Int) + (((fin k n r : Nat) : Int) - ((beg k r : Nat) : Int))) := by
      unfold Hid; rw [rowsUp_next, rowUp_all hk hk7 hr]; omega
    generalize fin k n r = q at hp hq hnext
    generalize beg k r = p at hp hnext
    generalize rowsUp k n r = u at c0 hu hnext
    have hc0 := c0.cell
    have hf0 := c0.frozen
    simp only [List.getElem!_toArray, List.getElem!_cons_zero, List.getElem!_cons_succ]
    gi_wp2
    refine ⟨(RF.refl _).set c0 (by simp; omega) _, ?_, hB1.setCell (p := ⟨w.heap.size, 0, none⟩) (Nat.le_refl _) _⟩
    rw [hnext.out]
    exact c0.set _
  case done =>
    rintro D W hD ⟨c0, hB1⟩ hK
    rw [linesV_length, rowsUp_count hk hk7] at c0
    have hc0 := c0.cell
    gi_wp2
    refine ⟨by simp, .inl ⟨_, _, rfl, run_takeDeferred hK, ?_⟩⟩
    exact ⟨_, results_tmp rfl _ _ _, rfl, hB1.put (Nat.le_refl _) (by omega)⟩
  case stop => exact fun _ _ _ _ h _ => h.elim
set_option maxRecDepth 100000 in
theorem Tryd.Count_out (k n : Int) (w : World) (h : mayB k n = false) :
    Calls Tryd.prog 10 #[.int .i64 k, .int .i64 n] w fun e w' => e = .returned (.int .i64 0) ∧ w' = w := by
  have M := fun (w : World) => Tryd.may_calls k n w
  rw [h] at M
  go_enter Tryd.func10, Tryd.ntmps10
  go_wp2_with (go_at_call 23; (with_reducible refine (M _).mono ?_); rintro e w1 ⟨rfl, hw1⟩; obtain rfl : w = w1 := hw1.symm)
  go_ret
  exact ⟨rfl, rfl⟩
theorem Tryd.Count_any (k n : Int) (w : World) :
    Calls Tryd.prog 10 #[.int .i64 k, .int .i64 n] w fun e w' => e = .returned (.int .i64 (countE k n)) ∧ Below w.heap.size w w' := by
  cases h : mayB k n with
  | false => rw [countE_out h]; exact (Tryd.Count_out k n w h).mono fun e w' ⟨h1, h2⟩ => ⟨h1, h2 ▸ Below.refl _ _⟩
  | true =>
    have hb := mayB_true h
    obtain ⟨k, rfl⟩ := nat_in (show 0 ≤ k by omega)
    obtain ⟨n, rfl⟩ := nat_in (show 0 ≤ n by omega)
    rw [countE_in (by omega) (by omega) (by omega) (by omega)]
    exact Tryd.Count_in k n w (by omega) (by omega) (by omega) (by omega)
#print axioms Tryd.Count_any
end Go.Proofs
