/- The law MetricOrder of layer 6, as a contract: it answers true at every input. Conditions: the array of keywords holds what the card lays; numbers that their kinds can be. -/
import Derived.Test.YtjdifckofgaohaaDoorMetricShown
namespace Go.Proofs
open Go.RowKit Go.Shelf Go.Root Go.Metric Go.TextTab
attribute [local go_sem] Oper.semAt_some

set_option maxRecDepth 100000 in
set_option maxHeartbeats 1000000 in
theorem Tryd.MetricOrder_out (sc dx dy : Int) (w : World) (h0 : 0 ≤ sc) (h9 : sc ≤ 255) (hT : Words w) (hf : ¬ (fitsB dx = true ∧ fitsB dy = true)) :
    Calls Tryd.prog 8 #[.int .u8 sc, .int .i64 dx, .int .i64 dy] w fun e w' => e = .returned (.bool true) ∧ Below w.heap.size w w' := by
  have X := fun (w : World) => Tryd.near_calls dx w
  have Y := fun (w : World) => Tryd.near_calls dy w
  have S := Tryd.shown_calls w hT
  cases hx : fitsB dx with
  | false =>
    rw [hx] at X
    clear hf hx
    go_enter Tryd.func8, Tryd.ntmps8
    go_wp2_with (first
      | (go_at_call 18; (with_reducible refine (X _).mono ?_); rintro e w2 ⟨rfl, hw2⟩; obtain rfl : w = w2 := hw2.symm)
      | (go_at_call 11; (with_reducible refine S.mono ?_); rintro e w1 ⟨rfl, hb⟩))
    go_ret
    exact ⟨rfl, hb⟩
  | true =>
    have hy : fitsB dy = false := by cases hy : fitsB dy with | false => rfl | true => exact absurd ⟨hx, hy⟩ hf
    rw [hx] at X
    rw [hy] at Y
    clear hf hx hy
    go_enter Tryd.func8, Tryd.ntmps8
    go_wp2_with (first
      | (go_at_call 18; first
        | ((with_reducible refine (X _).mono ?_); rintro e w2 ⟨rfl, hw2⟩; obtain rfl : w = w2 := hw2.symm)
        | ((with_reducible refine (Y _).mono ?_); rintro e w3 ⟨rfl, hw3⟩; obtain rfl : w = w3 := hw3.symm))
      | (go_at_call 11; (with_reducible refine S.mono ?_); rintro e w1 ⟨rfl, hb⟩))
    go_ret
    exact ⟨rfl, hb⟩

set_option maxRecDepth 100000 in
set_option maxHeartbeats 1000000 in
theorem Tryd.MetricOrder_in (sc dx dy : Int) (w : World) (h0 : 0 ≤ sc) (h9 : sc ≤ 255) (hT : Words w) (hx : fitsB dx = true) (hy : fitsB dy = true) :
    Calls Tryd.prog 8 #[.int .u8 sc, .int .i64 dx, .int .i64 dy] w fun e w' => e = .returned (.bool true) ∧ Below w.heap.size w w' := by
  have X := fun (w : World) => Tryd.near_calls dx w
  have Y := fun (w : World) => Tryd.near_calls dy w
  rw [hx] at X
  rw [hy] at Y
  have S := Tryd.shown_calls w hT
  have s1 : 0 ≤ sc % 7 ∧ sc % 7 ≤ 6 := by omega
  obtain ⟨s, hs⟩ : ∃ s, sc % 7 = s := ⟨_, rfl⟩
  rw [hs] at s1
  have x9 := fitsB_abs hx
  have y9 := fitsB_abs hy
  have t1 := pow_pos' s.toNat
  have hd := sum_most x9 y9
  have D1 := fun (w : World) => Tryd.Dist_calls 1 s dx dy w
  have D2 := fun (w : World) => Tryd.Dist_calls 2 s dx dy w
  have D3 := fun (w : World) => Tryd.Dist_calls 3 s dx dy w
  have D4 := fun (w : World) => Tryd.Dist_calls 4 s dx dy w
  have D5 := fun (w : World) => Tryd.Dist_calls 5 s dx dy w
  have D6 := fun (w : World) => Tryd.Dist_calls 6 s dx dy w
  rw [distE_ok (by omega) hx hy, show (1 : Int).toNat = 1 from rfl, dist1] at D1
  rw [distE_ok (by omega) hx hy, show (2 : Int).toNat = 2 from rfl, dist2] at D2
  rw [distE_ok (by omega) hx hy, show (3 : Int).toNat = 3 from rfl, dist3] at D3
  rw [distE_ok (by omega) hx hy, show (4 : Int).toNat = 4 from rfl, dist4] at D4
  rw [distE_ok (by omega) hx hy, show (5 : Int).toNat = 5 from rfl, dist5] at D5
  rw [distE_ok (by omega) hx hy, show (6 : Int).toNat = 6 from rfl, dist6] at D6
  have q1 := most_le_straight x9 y9 t1
  have q2 := straight_le_sides x9 y9 t1
  have q3 := near_le_ceil hd t1
  have q4 := Nat.le_trans (ceil_le_down hd t1) (Nat.add_le_add_right (down_le_near hd t1) 1)
  have q5 := att_le hd t1
  have q6 := tenth_ge hd t1
  have q7 := tenth_le hd t1
  have q8 := near_small (d := 10 ^ s.toNat) hd
  have q9 := nst_most (n := dx.natAbs + dy.natAbs) t1
  generalize near (dx.natAbs * dx.natAbs + dy.natAbs * dy.natAbs) (10 ^ s.toNat) = n at D1 q1 q2 q3 q4 q6 q7 q8
  generalize ceil (dx.natAbs * dx.natAbs + dy.natAbs * dy.natAbs) 1 (10 ^ s.toNat) = c at D2 q3 q4 q5
  generalize nst (dx.natAbs + dy.natAbs) (10 ^ s.toNat) = m at D3 q2 q9
  generalize max (nst dx.natAbs (10 ^ s.toNat)) (nst dy.natAbs (10 ^ s.toNat)) = x at D4 q1
  generalize ceil (dx.natAbs * dx.natAbs + dy.natAbs * dy.natAbs) 10 (10 ^ s.toNat) = a at D5 q5
  generalize down (dx.natAbs * dx.natAbs + dy.natAbs * dy.natAbs) 10 (10 ^ s.toNat) = t at D6 q6 q7
  have p9 : m ≤ 400000000 := by omega
  clear hx hy x9 y9 t1 hd hT q9
  go_enter Tryd.func8, Tryd.ntmps8
  go_wp2_with (first
    | (go_at_call 18; first
      | ((with_reducible refine (X _).mono ?_); rintro e w2 ⟨rfl, hw2⟩; obtain rfl : w = w2 := hw2.symm)
      | ((with_reducible refine (Y _).mono ?_); rintro e w3 ⟨rfl, hw3⟩; obtain rfl : w = w3 := hw3.symm))
    | (go_at_call 11; (with_reducible refine S.mono ?_); rintro e w1 ⟨rfl, hb⟩))
  clear S X Y
  go_wp2_with (go_at_call 9; (with_reducible refine (D1 _).mono ?_); rintro e v1 ⟨rfl, h1⟩; clear D1; replace hb := below_next hb h1 (Nat.le_refl _); clear h1)
  go_wp2_with (go_at_call 9; (with_reducible refine (D2 _).mono ?_); rintro e v2 ⟨rfl, h1⟩; clear D2; replace hb := below_next hb h1 (Nat.le_refl _); clear h1)
  go_wp2_with (go_at_call 9; (with_reducible refine (D3 _).mono ?_); rintro e v3 ⟨rfl, h1⟩; clear D3; replace hb := below_next hb h1 (Nat.le_refl _); clear h1)
  go_wp2_with (go_at_call 9; (with_reducible refine (D4 _).mono ?_); rintro e v4 ⟨rfl, h1⟩; clear D4; replace hb := below_next hb h1 (Nat.le_refl _); clear h1)
  go_wp2_with (go_at_call 9; (with_reducible refine (D5 _).mono ?_); rintro e v5 ⟨rfl, h1⟩; clear D5; replace hb := below_next hb h1 (Nat.le_refl _); clear h1)
  go_wp2_with (go_at_call 9; (with_reducible refine (D6 _).mono ?_); rintro e v6 ⟨rfl, h1⟩; clear D6; replace hb := below_next hb h1 (Nat.le_refl _); clear h1)
  go_ret
  exact ⟨ret_is (by first | rfl | (simp; omega)), hb⟩

theorem Tryd.MetricOrder_calls (sc dx dy : Int) (w : World) (h0 : 0 ≤ sc) (h9 : sc ≤ 255) (hT : Words w) :
    Calls Tryd.prog 8 #[.int .u8 sc, .int .i64 dx, .int .i64 dy] w fun e w' => e = .returned (.bool true) ∧ Below w.heap.size w w' := by
  by_cases hf : fitsB dx = true ∧ fitsB dy = true
  · exact Tryd.MetricOrder_in sc dx dy w h0 h9 hT hf.1 hf.2
  · exact Tryd.MetricOrder_out sc dx dy w h0 h9 hT hf
#print axioms Tryd.MetricOrder_calls
end Go.Proofs
