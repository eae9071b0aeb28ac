/- The program's spans (has, numbers, signed), and what is asked of a node at its place (the methods of seat). Conditions: none. -/
import Derived.Test.YtogpnkahgkidpaaCanonNode
namespace Go.Canon
/-- Is a number within a span? -/
def has (s : Int × Int) (n : Int) : Bool := decide (s.1 ≤ n) && decide (n ≤ s.2)
/-- What coordinates, demands, times, mates may be. -/
def coordsS (metric : Int) : Int × Int := if metric ≠ 0 then (-100000000, 100000000) else (0, 0)
def timesS (kind : Int) : Int × Int := if kind = 1 ∨ kind = 2 then (0, 0) else (0, 100000000)
def demandsS (kind : Int) (i : Nat) : Int × Int := if kind = 1 ∨ i = 0 then (0, 0) else if kind = 4 then (-100000000, 100000000) else (0, 100000000)
def matesS (kind : Int) (i n : Nat) : Int × Int := if kind ≠ 4 ∨ i = 0 then (0, 0) else (1, (n : Int) - 1)
theorem coord_has (metric : Int) (d : Nd) : (has (coordsS metric) d.x && has (coordsS metric) d.y) = coordB metric d := by
  unfold coordB coordsS has signed
  by_cases h : metric = 0
  · rw [Bool.eq_iff_iff]; simp [h]; omega
  · rw [Bool.eq_iff_iff]; simp [h]
theorem demand_has (kind : Int) (i : Nat) (d : Nd) : has (demandsS kind i) d.demand = demandB kind i d := by
  unfold demandB demandsS has number signed
  by_cases h : kind = 1 ∨ i = 0
  · rw [if_pos h, if_pos h, Bool.eq_iff_iff]; simp; omega
  · rw [if_neg h, if_neg h]
    by_cases h4 : kind = 4
    · rw [if_pos h4, Bool.eq_iff_iff]; simp [h4]; omega
    · rw [if_neg h4, Bool.eq_iff_iff]; simp [h4]
theorem window_has (kind : Int) (d : Nd) : (has (timesS kind) d.ready && has (timesS kind) d.due && decide (d.ready ≤ d.due)) = windowB kind d := by
  unfold windowB timesS has number
  by_cases h : kind = 1 ∨ kind = 2
  · rw [if_pos h, if_pos h, Bool.eq_iff_iff]; simp; omega
  · rw [if_neg h, if_neg h]
theorem service_has (kind : Int) (d : Nd) : has (timesS kind) d.service = serviceB kind d := by
  unfold serviceB timesS has number
  by_cases h : kind = 1 ∨ kind = 2
  · rw [if_pos h, if_pos h, Bool.eq_iff_iff]; simp; omega
  · rw [if_neg h, if_neg h]
end Go.Canon
namespace Go.Proofs
open Go.RowKit Go.Shelf Go.Canon
attribute [local go_sem] Oper.semAt_some

theorem Try.has_calls (s : Int × Int) (n : Int) (w : World) :
    Calls Try.prog 25 #[.agg #[.int .i64 s.1, .int .i64 s.2], .int .i64 n] w fun e w' => e = .returned (.bool (has s n)) ∧ Below w.heap.size w w' := by
  obtain ⟨lo, hi⟩ := s
  dsimp only [has]
  by_cases h1 : lo ≤ n
  · by_cases h2 : n ≤ hi
    · go_enter Try.func25, Try.ntmps25
      go_wp2
      go_ret
      exact ⟨cret_is (by simp; omega), below_box _ _⟩
    · go_enter Try.func25, Try.ntmps25
      go_wp2
      go_ret
      exact ⟨cret_is (by simp; omega), below_box _ _⟩
  · go_enter Try.func25, Try.ntmps25
    go_wp2
    go_ret
    exact ⟨cret_is (by simp; omega), below_box _ _⟩
theorem Try.numbers_calls (w : World) :
    Calls Try.prog 43 #[] w fun e w' => e = .returned (.agg #[.int .i64 0, .int .i64 100000000]) ∧ Below w.heap.size w w' := by
  go_enter Try.func43, Try.ntmps43
  go_wp2
  refine bodyPost_ret (v := .agg #[.int .i64 0, .int .i64 100000000]) (by simp [results, Try.results43, go_sem]) rfl ⟨rfl, ?_⟩
  exact below_box _ _
theorem Try.signed_calls (w : World) :
    Calls Try.prog 56 #[] w fun e w' => e = .returned (.agg #[.int .i64 (-100000000), .int .i64 100000000]) ∧ Below w.heap.size w w' := by
  go_enter Try.func56, Try.ntmps56
  go_wp2
  refine bodyPost_ret (v := .agg #[.int .i64 (-100000000), .int .i64 100000000]) (by simp [results, Try.results56, go_sem]) rfl ⟨rfl, ?_⟩
  exact below_box _ _
end Go.Proofs
