/- The distances of package metric: its table of closures, and Dist. Conditions: none but that the numbers are ints. -/
import Derived.Test.YtjdifckofgaohaaDoorMetricSmall
import Derived.Laws.EntriesVeiled
import Derived.Deep.QuietTactic
import Derived.BigQuiet
namespace Go.Proofs
open Go.RowKit Go.Shelf Go.Root Go.Metric
attribute [local go_sem] Oper.semAt_some

theorem below_drewN {B : Nat} {a w : World} (h : Below B a w) (n : Nat) : Below B a (w.drewN n) := ⟨h.os, h.tape, h.output, h.size, h.block⟩
/-- A pointer to a box. -/
def ptr (b : Nat) : Value := .pointer (some ⟨b, 0, none⟩)
/-- The table of closures, over the boxes from b on. -/
def Tryd.tabV (b : Nat) : Array Value :=
  #[.nilFunc, .func (.func 28) #[] #[ptr (b + 4), ptr (b + 2)], .func (.func 30) #[] #[ptr (b + 4), ptr (b + 2)],
    .func (.func 32) #[] #[ptr b, ptr (b + 1), ptr (b + 2)], .func (.func 34) #[] #[ptr b, ptr (b + 2), ptr (b + 1)],
    .func (.func 35) #[] #[ptr (b + 4), ptr (b + 2)], .func (.func 36) #[] #[ptr (b + 4), ptr (b + 2)]]
/-- The boxes that the closures hold. -/
structure Boxes (W : World) (b x y t : Nat) : Prop where
  bx : Boxed W b 3 (.int .i64 (x : Int))
  bY : Boxed W (b + 1) 3 (.int .i64 (y : Int))
  bt : Boxed W (b + 2) 3 (.int .i64 (t : Int))
  bd : Boxed W (b + 4) 3 (.int .i64 ((x * x + y * y : Nat) : Int))

set_option maxRecDepth 100000 in
set_option maxHeartbeats 1000000 in
theorem Tryd.distances_calls (x y t : Nat) (w : World) (hx : x ≤ 200000000) (hy : y ≤ 200000000) :
    Calls Tryd.prog 20 #[.int .i64 (x : Int), .int .i64 (y : Int), .int .i64 (t : Int)] w fun e w' => e = .returned (.agg (Tryd.tabV w.heap.size)) ∧ Below w.heap.size w w' ∧ Boxes w' w.heap.size x y t ∧ w'.heap.size = w.heap.size + 5 := by
  have h1 : x * x ≤ 40000000000000000 := sq_le hx
  have h2 : y * y ≤ 40000000000000000 := sq_le hy
  have hw1 : wrap64 ((x : Int) * (x : Int)) = ((x * x : Nat) : Int) := wrap_nat (by simp) (by omega)
  have hw2 : wrap64 ((y : Int) * (y : Int)) = ((y * y : Nat) : Int) := wrap_nat (by simp) (by omega)
  obtain ⟨p, hp⟩ : ∃ p, x * x = p := ⟨_, rfl⟩
  obtain ⟨q, hq⟩ : ∃ q, y * y = q := ⟨_, rfl⟩
  rw [hp] at h1 hw1
  rw [hq] at h2 hw2
  have Hp := Lib.hid hp
  have Hq := Lib.hid hq
  clear hp hq
  go_enter Tryd.func20, Tryd.ntmps20
  go_wp2
  refine bodyPost_ret (v := .agg (Tryd.tabV w.heap.size)) (by simp [results, Tryd.results20, go_sem, Tryd.tabV, ptr]) rfl ⟨rfl, ?_, ⟨?_, ?_, ?_, ?_⟩, ?_⟩
  · exact (((((Below.refl _ w).alloc (Nat.le_refl _) _).alloc (by simp) _).alloc (by simp; omega) _).alloc (by simp; omega) _).alloc (by simp; omega) _
  · exact ((((Boxed.new w 3 _).alloc _).alloc _).alloc _).alloc _
  · exact (((Boxed.at 3 _ (by simp)).alloc _).alloc _).alloc _
  · exact ((Boxed.at 3 _ (by simp)).alloc _).alloc _
  · have : ((x * x + y * y : Nat) : Int) = (p : Int) + (q : Int) := by rw [Hp.out, Hq.out]; simp
    rw [this]
    exact Boxed.at 3 _ (by simp)
  · simp

/-! The closures. -/
theorem dist1 (t x y : Nat) : dist 1 t x y = near (x * x + y * y) t := by simp [dist]
theorem dist2 (t x y : Nat) : dist 2 t x y = ceil (x * x + y * y) 1 t := by simp [dist]
theorem dist3 (t x y : Nat) : dist 3 t x y = nst (x + y) t := by simp [dist]
theorem dist4 (t x y : Nat) : dist 4 t x y = max (nst x t) (nst y t) := by simp [dist]
theorem dist5 (t x y : Nat) : dist 5 t x y = ceil (x * x + y * y) 10 t := by simp [dist]
theorem dist6 (t x y : Nat) : dist 6 t x y = down (x * x + y * y) 10 t := by simp [dist]

set_option maxHeartbeats 1000000 in
theorem Tryd.way1 (b x y t : Nat) (W : World) (hB : Boxes W b x y t) (hx : x ≤ 200000000) (hy : y ≤ 200000000) (ht : 1 ≤ t) (ht9 : t ≤ 1000000) :
    Calls Tryd.prog 28 #[ptr (b + 4), ptr (b + 2)] W fun e w' => e = .returned (.int .i64 (dist 1 t x y : Int)) ∧ Below W.heap.size W w' := by
  have c2 := hB.bt.cell
  have c4 := hB.bd.cell
  have hs := sum_most hx hy
  rw [dist1]
  generalize x * x + y * y = n at c4 hs
  have F := fun (w : World) => Tryd.Near_calls n t w hs ht ht9
  clear hB
  simp only [ptr]
  go_enter Tryd.func28, Tryd.ntmps28
  go_wp2_with (go_at_call 29; (with_reducible refine (F _).mono ?_); rintro e w1 ⟨rfl, hb⟩)
  go_ret
  exact ⟨rfl, hb⟩
set_option maxHeartbeats 1000000 in
theorem Tryd.way2 (b x y t : Nat) (W : World) (hB : Boxes W b x y t) (hx : x ≤ 200000000) (hy : y ≤ 200000000) (ht : 1 ≤ t) (ht9 : t ≤ 1000000) :
    Calls Tryd.prog 30 #[ptr (b + 4), ptr (b + 2)] W fun e w' => e = .returned (.int .i64 (dist 2 t x y : Int)) ∧ Below W.heap.size W w' := by
  have c2 := hB.bt.cell
  have c4 := hB.bd.cell
  have hs := sum_most hx hy
  rw [dist2]
  generalize x * x + y * y = n at c4 hs
  have F := fun (w : World) => Tryd.Ceil_at n 1 t n 1 t w rfl rfl rfl hs (by omega) (by omega) ht ht9
  clear hB
  simp only [ptr]
  go_enter Tryd.func30, Tryd.ntmps30
  go_wp2_with (go_at_call 31; (with_reducible refine (F _).mono ?_); rintro e w1 ⟨rfl, hb⟩)
  go_ret
  exact ⟨rfl, hb⟩
set_option maxHeartbeats 1000000 in
theorem Tryd.way3 (b x y t : Nat) (W : World) (hB : Boxes W b x y t) (hx : x ≤ 200000000) (hy : y ≤ 200000000) (ht : 1 ≤ t) (ht9 : t ≤ 1000000) :
    Calls Tryd.prog 32 #[ptr b, ptr (b + 1), ptr (b + 2)] W fun e w' => e = .returned (.int .i64 (dist 3 t x y : Int)) ∧ Below W.heap.size W w' := by
  have c0 := hB.bx.cell
  have c1 := hB.bY.cell
  have c2 := hB.bt.cell
  rw [dist3]
  have F := fun (z : Int) (w : World) (hz : z = ((x + y : Nat) : Int)) => hz ▸ Tryd.nearest_calls (x + y) t w (by omega) ht ht9
  clear hB
  simp only [ptr]
  go_enter Tryd.func32, Tryd.ntmps32
  go_wp2_with (go_at_call 33; (with_reducible refine (F _ _ (by omega)).mono ?_); rintro e w1 ⟨rfl, hw⟩; obtain rfl : W = w1 := hw.symm)
  go_ret
  exact ⟨rfl, Below.refl _ _⟩
set_option maxHeartbeats 1000000 in
theorem Tryd.way4 (b x y t : Nat) (W : World) (hB : Boxes W b x y t) (hx : x ≤ 200000000) (hy : y ≤ 200000000) (ht : 1 ≤ t) (ht9 : t ≤ 1000000) :
    Calls Tryd.prog 34 #[ptr b, ptr (b + 2), ptr (b + 1)] W fun e w' => e = .returned (.int .i64 (dist 4 t x y : Int)) ∧ Below W.heap.size W w' := by
  have c0 := hB.bx.cell
  have c1 := hB.bY.cell
  have c2 := hB.bt.cell
  rw [dist4]
  have F := fun (w : World) => Tryd.nearest_calls x t w (by omega) ht ht9
  have G := fun (w : World) => Tryd.nearest_calls y t w (by omega) ht ht9
  generalize nst x t = p at F
  generalize nst y t = q at G
  clear hB
  simp only [ptr]
  go_enter Tryd.func34, Tryd.ntmps34
  go_wp2_with (fail)
  go_quiet ((go_at_call 33; first | (with_reducible exact Calls.quiet_of_same (F _)) | (with_reducible exact Calls.quiet_of_same (G _))))
  go_wp2
  go_ret
  exact ⟨ret_num (by go_num), below_drewN (Below.refl _ _) _⟩
set_option maxHeartbeats 1000000 in
theorem Tryd.way5 (b x y t : Nat) (W : World) (hB : Boxes W b x y t) (hx : x ≤ 200000000) (hy : y ≤ 200000000) (ht : 1 ≤ t) (ht9 : t ≤ 1000000) :
    Calls Tryd.prog 35 #[ptr (b + 4), ptr (b + 2)] W fun e w' => e = .returned (.int .i64 (dist 5 t x y : Int)) ∧ Below W.heap.size W w' := by
  have c2 := hB.bt.cell
  have c4 := hB.bd.cell
  have hs := sum_most hx hy
  rw [dist5]
  generalize x * x + y * y = n at c4 hs
  have F := fun (w : World) => Tryd.Ceil_at n 10 t n 10 t w rfl rfl rfl hs (by omega) (by omega) ht ht9
  clear hB
  simp only [ptr]
  go_enter Tryd.func35, Tryd.ntmps35
  go_wp2_with (go_at_call 31; (with_reducible refine (F _).mono ?_); rintro e w1 ⟨rfl, hb⟩)
  go_ret
  exact ⟨rfl, hb⟩
set_option maxHeartbeats 1000000 in
theorem Tryd.way6 (b x y t : Nat) (W : World) (hB : Boxes W b x y t) (hx : x ≤ 200000000) (hy : y ≤ 200000000) (ht : 1 ≤ t) (ht9 : t ≤ 1000000) :
    Calls Tryd.prog 36 #[ptr (b + 4), ptr (b + 2)] W fun e w' => e = .returned (.int .i64 (dist 6 t x y : Int)) ∧ Below W.heap.size W w' := by
  have c2 := hB.bt.cell
  have c4 := hB.bd.cell
  have hs := sum_most hx hy
  rw [dist6]
  generalize x * x + y * y = n at c4 hs
  have F := fun (w : World) => Tryd.Down_at n 10 t n 10 t w rfl rfl rfl hs (by omega) ht ht9
  clear hB
  simp only [ptr]
  go_enter Tryd.func36, Tryd.ntmps36
  go_wp2_with (go_at_call 37; (with_reducible refine (F _).mono ?_); rintro e w1 ⟨rfl, hb⟩)
  go_ret
  exact ⟨rfl, hb⟩
end Go.Proofs
