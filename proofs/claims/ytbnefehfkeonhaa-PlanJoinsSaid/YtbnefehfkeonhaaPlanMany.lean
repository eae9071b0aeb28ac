/- plan.Many of the program. Conditions: fewer than 2^62 stops. -/
import Derived.Test.YtbnefehfkeonhaaPlanVisits
namespace Go.Proofs
open Go.RowKit Go.Plans
attribute [local go_sem] Oper.semAt_some

/-- A round may turn one block of cells alone. -/
def butT (B : Nat) (b : Nat) (_ : TypeId) : Bool := b != B
theorem butT_ne {B b : Nat} (t : TypeId) (h : b ≠ B) : butT B b t = true := by simp [butT, h]
theorem butT_eq (B : Nat) (t : TypeId) : butT B B t = false := by simp [butT]
theorem below_own {n B : Nat} {w X Y : World} (h : Below n w X) {row : Option Nat} (hg : X.grownBy Y row) (hnw : n ≤ X.heap.size) (hB : n ≤ B) (hr : ∀ r, row = some r → B ≤ r ∧ ∃ o : Obj, X.heap[r]? = some o ∧ o.isCells = false) : Below n w Y :=
  h.grown hg hnw (fun k e => Nat.le_trans hB (hr k e).1)

set_option maxRecDepth 100000 in
set_option maxHeartbeats 1000000 in
theorem Try.Many_calls (v : Value) (rr : Rts) (w : World) (hm : many rr ≤ 4611686018427387904) (hv : HasRts w v rr) :
    Calls Try.prog 16 #[planV v] w fun e w' => e = .returned (.int .i64 (many rr : Int)) ∧ Below w.heap.size w w' := by
  have HV := Lib.hid hv
  obtain ⟨ao, cap, rfl⟩ := hv.len
  obtain ⟨n, hn⟩ : ∃ n, rr.length = n := ⟨_, rfl⟩
  rw [hn] at HV ⊢
  have HM := Lib.hid hm
  have HRc := Lib.hid (fun w => Try.visits_calls (.slice ao n cap) w)
  unfold planV at HRc ⊢
  clear hv hn hm
  refine (callsIn_wide (n := 0)).1 (callsIn_of_wp_marks Try.func16 rfl trivial ?_ rfl)
  simp only [Try.ntmps16, List.size_toArray, List.length_cons, List.length_nil, Nat.reduceAdd, Nat.reduceSub, Array.replicate_succ, Array.replicate_zero, List.push_toArray, List.append_toArray, List.nil_append, List.cons_append]
  gi_wp2_with (refine ⟨trivial, rfl, ?_⟩; gi_at_call 24; refine (callsIn_wide.2 (HRc.out _)).mono ?_; rintro e w' ⟨rfl, rfl⟩)
  obtain ⟨V, hV⟩ : ∃ V, V = (((w.alloc (Obj.cells #[Value.slice ao n cap] 24)).alloc (Obj.cells #[Value.int IntKind.i64 0] 3)).alloc (Obj.cells #[Value.slice ao n cap] 24)) := ⟨_, rfl⟩
  have hVs : V.heap.size = w.heap.size + 1 + 1 + 1 := by rw [hV]; simp
  have b1 : Boxed V (w.heap.size + 1) 3 (.int .i64 0) := by rw [hV]; exact (Boxed.at 3 _ (by simp)).alloc _
  have b2 : Boxed V (w.heap.size + 1 + 1) 24 (.slice ao n cap) := by rw [hV]; exact Boxed.at 24 _ (by simp)
  have hB : Below w.heap.size w V := by
    rw [hV]; exact (((Below.refl _ w).alloc (Nat.le_refl _) _).alloc (by simp) _).alloc (by simp; omega) _
  rw [← hV]
  clear hV
  refine range_seqX (T := butT (w.heap.size + 1)) (gf := 28) (lb := #[.pointer (some ⟨w.heap.size + 1 + 1, 0, none⟩)]) rfl (enters_of Try.func28 (by kernel_rfl) rfl)
    (Try.visits1_seq w _ (.slice ao n cap) rr V HV.out (Still.of_below hB) b2 (fun b t h => butT_ne t (by omega))) (Below.refl _ _) (fun k x X h => by obtain ⟨_, _, _, _, _, _, _, rfl⟩ := h; rfl)
    (fun k W => Boxed W (w.heap.size + 1) 3 (.int .i64 (k : Int)) ∧ Below w.heap.size w W)
    (fun c W => False)
    (fun k X Y row h hg hr => ⟨h.1.own hg hr, h.2.own (Nat.le_refl _) hg (by omega) hr⟩)
    (fun c _ X Y row h hg hr => h)
    ⟨b1, hB⟩
    (fun k a' X => ∃ x, a' = { tmps := #[.agg #[.slice ao n cap], .pointer (some ⟨w.heap.size, 0, none⟩), .int .i64 0, .pointer (some ⟨w.heap.size + 1, 0, none⟩), .agg #[.slice ao n cap], .func (.func 28) #[] #[.pointer (some ⟨w.heap.size + 1 + 1, 0, none⟩)], x, undef, undef, undef], defers := [] })
    (fun _ _ _ _ _ _ h _ _ => h) ?assign ?body ?done ?stop
  case assign =>
    intro l k x X K hkN hVX hx hi hK
    obtain ⟨i, j, r, s, h1, h2, h3, rfl⟩ := hx
    gi_wp2
    exact hK _ _ (RF.refl _) hi ⟨.agg #[.int .i64 (i : Int), .int .i64 (j : Int), .int .i64 s], by simp⟩
  case body =>
    rintro l k a' X hkN hVl hlr ⟨c1, hB1⟩ ⟨x, rfl⟩
    have hc1 := c1.cell
    have hf1 := c1.frozen
    have hkm : k < 4611686018427387904 := by have := HM.out; omega
    clear hlr
    gi_wp2
    exact ⟨(RF.refl _).set c1 (butT_eq _ _) _, by simpa using c1.set (.int .i64 ((k : Int) + 1)), hB1.setCell (p := ⟨w.heap.size + 1, 0, none⟩) (by simp) _⟩
  case done =>
    rintro D X hD ⟨c1, hB1⟩ hK
    have hc1 := c1.cell
    gi_wp2
    refine ⟨by simp, .inl ⟨_, _, rfl, run_takeDeferred hK, ?_⟩⟩
    exact ⟨.int .i64 (many rr : Int), by simp [results, Try.results16, go_sem], rfl, hB1.put (Nat.le_refl _) (by omega)⟩
  case stop =>
    rintro D c X hD h hK
    exact h.elim
#print axioms Try.Many_calls
end Go.Proofs
