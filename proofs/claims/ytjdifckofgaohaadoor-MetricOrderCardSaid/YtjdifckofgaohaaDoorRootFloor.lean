/- root.Floor of this program: the root of a number, rounded down. Conditions: a number that an int can be, 0 at least. -/
import Derived.Test.YtjdifckofgaohaaDoorRootGuesses
namespace Go.Root
/-- The guess that stands last among the first k. -/
def lastOf (n k : Nat) : Nat := ((guesses n).take k).getLast?.getD 0
theorem lastOf_zero (n : Nat) : lastOf n 0 = 0 := by simp [lastOf]
theorem lastOf_next {n k g : Nat} (h : (guesses n)[k]? = some g) : lastOf n (k + 1) = g := by
  obtain ⟨hk, he⟩ := List.getElem?_eq_some_iff.1 h
  simp [lastOf, List.take_add_one, h]
theorem lastOf_all (n : Nat) : lastOf n (guesses n).length = rt n := by simp [lastOf, rt]
end Go.Root
namespace Go.Proofs
open Go.RowKit Go.Shelf Go.Root
attribute [local go_sem] Oper.semAt_some

theorem guessesV_get {n k : Nat} {x : Array Value} (h : (guessesV n)[k]? = some x) : ∃ g : Nat, x = #[.int .i64 (g : Int)] ∧ (guesses n)[k]? = some g := by
  simp only [guessesV, List.getElem?_map, Option.map_eq_some_iff] at h
  obtain ⟨g, hp, rfl⟩ := h
  exact ⟨g, rfl, hp⟩

set_option maxRecDepth 100000 in
set_option maxHeartbeats 1000000 in
theorem Tryd.Floor_calls (n : Nat) (w : World) (hn : n ≤ 9223372036854775807) :
    Calls Tryd.prog 39 #[.int .i64 (n : Int)] w fun e w' => e = .returned (.int .i64 (rt n : Int)) ∧ Below w.heap.size w w' := by
  refine (callsIn_wide (n := 0)).1 (callsIn_of_wp_marks Tryd.func39 rfl trivial ?_ rfl)
  simp only [Tryd.ntmps39, List.size_toArray, List.length_cons, List.length_nil, Nat.reduceAdd, Nat.reduceSub, Array.replicate_succ, Array.replicate_zero, List.push_toArray, List.append_toArray, List.nil_append, List.cons_append]
  gi_wp2_with (refine ⟨trivial, rfl, ?_⟩; gi_at_call 43; refine (callsIn_wide.2 (Tryd.guesses_calls _ _)).mono ?_; rintro e w' ⟨rfl, rfl⟩)
  obtain ⟨V, hV⟩ : ∃ V, V = (w.alloc (Obj.cells #[Value.int IntKind.i64 0] 3)).alloc (Obj.cells #[Value.int IntKind.i64 (n : Int)] 3) := ⟨_, rfl⟩
  have hVs : V.heap.size = w.heap.size + 1 + 1 := by rw [hV]; simp
  have b0 : Boxed V w.heap.size 3 (.int .i64 0) := by rw [hV]; exact (Boxed.new w 3 _).alloc _
  have b1 : Boxed V (w.heap.size + 1) 3 (.int .i64 (n : Int)) := by rw [hV]; exact Boxed.at 3 _ (by simp)
  have hB : Below w.heap.size w V := by rw [hV]; exact ((Below.refl _ w).alloc (Nat.le_refl _) _).alloc (by simp) _
  rw [← hV]
  clear hV
  refine range_seq (T := fun k _ => k == w.heap.size + 1) (gf := 44) (lb := #[.pointer (some ⟨w.heap.size + 1, 0, none⟩)]) rfl (enters_of Tryd.func44 (by kernel_rfl) rfl)
    (Tryd.guesses1_seq _ _ n V hn (by simp) (by omega) b1) (Below.refl _ _) (fun k x h => by obtain ⟨g, rfl, _⟩ := guessesV_get h; rfl)
    (fun k W => Boxed W w.heap.size 3 (.int .i64 (lastOf n k : Nat)) ∧ Below w.heap.size w W)
    (fun _ _ => False)
    (fun k X Y row h hg hr => ⟨h.1.own hg hr, h.2.own (Nat.le_refl _) hg (by omega) hr⟩)
    (fun c _ X Y row h hg hr => h)
    ⟨by rw [lastOf_zero]; exact b0, hB⟩
    (fun x a' _ => a' = { tmps := #[.int .i64 (n : Int), undef, .int .i64 0, .pointer (some ⟨w.heap.size, 0, none⟩), x[0]!, .int .i64 (n : Int), .func (.func 44) #[] #[.pointer (some ⟨w.heap.size + 1, 0, none⟩)], x[0]!, undef, undef], defers := [] })
    (fun _ _ _ _ _ _ h _ _ => h) ?assign ?body ?done ?stop
  case assign =>
    intro l k x W K hx hi hK
    obtain ⟨g, rfl, hx⟩ := guessesV_get hx
    gi_wp2
    exact hK _ _ (RF.refl _) hi rfl
  case body =>
    rintro l k x a' W hx0 ⟨c0, hB1⟩ rfl
    obtain ⟨g, rfl, hx⟩ := guessesV_get hx0
    clear hx0
    have hc0 := c0.cell
    have hf0 := c0.frozen
    simp only [List.getElem!_toArray, List.getElem!_cons_zero]
    gi_wp2
    refine ⟨(RF.refl _).set c0 (by simp) _, ?_, hB1.setCell (p := ⟨w.heap.size, 0, none⟩) (Nat.le_refl _) _⟩
    rw [lastOf_next hx]
    exact c0.set _
  case done =>
    rintro D W hD ⟨c0, hB1⟩ hK
    have hl : (guessesV n).length = (guesses n).length := by simp [guessesV]
    rw [hl, lastOf_all] at c0
    have hc0 := c0.cell
    have hf0 := c0.frozen
    gi_wp2
    refine ⟨by simp, .inl ⟨_, _, rfl, run_takeDeferred hK, ?_⟩⟩
    exact ⟨.int .i64 (rt n : Int), by simp [results, Tryd.results39, go_sem], rfl, hB1.put (Nat.le_refl _) (by omega)⟩
  case stop =>
    rintro D c W hD h hK
    exact h.elim
#print axioms Tryd.Floor_calls
end Go.Proofs
