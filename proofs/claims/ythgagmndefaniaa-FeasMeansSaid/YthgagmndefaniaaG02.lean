/- The document's own answers on nodes of instances: coord, window. Conditions: the node is there. -/
import Derived.Test.YthgagmndefaniaaG01
namespace Go.Proofs
open Go.RowKit Go.Shelf Go.Canon
attribute [local go_sem] Oper.semAt_some

theorem below_two (w : World) (o p : Obj) : Below w.heap.size w ((w.alloc o).alloc p) := (below_box w o).alloc (below_box w o).size _
set_option maxRecDepth 100000 in
theorem Try.rcoord_calls (x : Ins) (vn vm : Value) (i : Nat) (w : World) (hx : HasIns w vn vm x) (hi : i < x.nodes.length) :
    Calls Try.prog 65 #[insV x vn vm, .int .i64 (i : Int)] w fun e w' => e = .returned (.bool (coordB x.metric (at' x i))) ∧ Below w.heap.size w w' := by
  obtain ⟨b, off, cap, rfl, hb, hd⟩ := hx.node hi
  obtain ⟨c0, c1, c2, c3, c4, c5, c6⟩ := hd
  have S := fun (w : World) => Try.rsigned_calls (at' x i).x w
  have T := fun (w : World) => Try.rsigned_calls (at' x i).y w
  have ii : (i : Int) < (x.nodes.length : Int) := by omega
  unfold insV coordB
  generalize x.nodes.length = L at hi ii ⊢
  generalize at' x i = d at *
  obtain ⟨dx, dy, dd, dr, du, ds, dm⟩ := d
  dsimp only at *
  generalize x.metric = k
  clear hx
  generalize signed dx = sx at S ⊢
  generalize signed dy = sy at T ⊢
  cases sx with
  | false =>
    go_enter Try.func65, Try.ntmps65
    go_wp2_with (first
      | (go_at_call 80; (with_reducible refine (S _).mono ?_); rintro e w1 ⟨rfl, hw1⟩; obtain rfl : _ = w1 := hw1.symm))
    go_ret
    exact ⟨rfl, below_two _ _ _⟩
  | true =>
    cases sy with
    | false =>
      go_enter Try.func65, Try.ntmps65
      go_wp2_with (first
        | (go_at_call 80; (with_reducible refine (S _).mono ?_); rintro e w1 ⟨rfl, hw1⟩; obtain rfl : _ = w1 := hw1.symm)
        | (go_at_call 80; (with_reducible refine (T _).mono ?_); rintro e w2 ⟨rfl, hw2⟩; obtain rfl : _ = w2 := hw2.symm))
      go_ret
      exact ⟨rfl, below_two _ _ _⟩
    | true =>
      by_cases h0 : k = 0
      · subst h0
        by_cases hx0 : dx = 0
        · subst hx0
          go_enter Try.func65, Try.ntmps65
          go_wp2_with (first
            | (go_at_call 80; (with_reducible refine (S _).mono ?_); rintro e w1 ⟨rfl, hw1⟩; obtain rfl : _ = w1 := hw1.symm)
            | (go_at_call 80; (with_reducible refine (T _).mono ?_); rintro e w2 ⟨rfl, hw2⟩; obtain rfl : _ = w2 := hw2.symm))
          go_ret
          exact ⟨cret_is (by simp [beq_dec]), below_two _ _ _⟩
        · have kx : (dx == 0) = false := beq_eq_false_iff_ne.2 hx0
          have ex : decide (dx = 0) = false := decide_eq_false hx0
          rw [ex]
          clear hx0 ex
          go_enter Try.func65, Try.ntmps65
          go_wp2_with (first
            | (go_at_call 80; (with_reducible refine (S _).mono ?_); rintro e w1 ⟨rfl, hw1⟩; obtain rfl : _ = w1 := hw1.symm)
            | (go_at_call 80; (with_reducible refine (T _).mono ?_); rintro e w2 ⟨rfl, hw2⟩; obtain rfl : _ = w2 := hw2.symm))
          go_ret
          exact ⟨cret_is (by simp), below_two _ _ _⟩
      · have k0 : (k != 0) = true := bne_iff_ne.2 h0
        have e0 : decide (k ≠ 0) = true := decide_eq_true h0
        rw [e0]
        clear h0 e0
        go_enter Try.func65, Try.ntmps65
        go_wp2_with (first
          | (go_at_call 80; (with_reducible refine (S _).mono ?_); rintro e w1 ⟨rfl, hw1⟩; obtain rfl : _ = w1 := hw1.symm)
          | (go_at_call 80; (with_reducible refine (T _).mono ?_); rintro e w2 ⟨rfl, hw2⟩; obtain rfl : _ = w2 := hw2.symm))
        go_ret
        exact ⟨cret_is (by simp), below_two _ _ _⟩
set_option maxRecDepth 100000 in
theorem Try.rwindow_calls (x : Ins) (vn vm : Value) (i : Nat) (w : World) (hx : HasIns w vn vm x) (hi : i < x.nodes.length) :
    Calls Try.prog 67 #[insV x vn vm, .int .i64 (i : Int)] w fun e w' => e = .returned (.bool (windowB x.kind (at' x i))) ∧ Below w.heap.size w w' := by
  obtain ⟨b, off, cap, rfl, hb, hd⟩ := hx.node hi
  obtain ⟨c0, c1, c2, c3, c4, c5, c6⟩ := hd
  have S := fun (w : World) => Try.rnumber_calls (at' x i).ready w
  have T := fun (w : World) => Try.rnumber_calls (at' x i).due w
  have ii : (i : Int) < (x.nodes.length : Int) := by omega
  unfold insV windowB
  generalize x.nodes.length = L at hi ii ⊢
  generalize at' x i = d at *
  obtain ⟨dx, dy, dd, dr, du, ds, dm⟩ := d
  dsimp only at *
  generalize x.kind = k
  clear hx
  by_cases h1 : k = 1 ∨ k = 2
  · rw [if_pos h1]
    by_cases hx0 : dr = 0
    · subst hx0
      rcases h1 with h1 | h1 <;> subst h1
      · go_enter Try.func67, Try.ntmps67
        go_wp2
        go_ret
        exact ⟨cret_is (by simp [beq_dec]), below_two _ _ _⟩
      · go_enter Try.func67, Try.ntmps67
        go_wp2
        go_ret
        exact ⟨cret_is (by simp [beq_dec]), below_two _ _ _⟩
    · have kx : (dr == 0) = false := beq_eq_false_iff_ne.2 hx0
      have ex : decide (dr = 0) = false := decide_eq_false hx0
      rw [ex]
      clear hx0 ex
      rcases h1 with h1 | h1 <;> subst h1
      · go_enter Try.func67, Try.ntmps67
        go_wp2
        go_ret
        exact ⟨cret_is (by simp), below_two _ _ _⟩
      · go_enter Try.func67, Try.ntmps67
        go_wp2
        go_ret
        exact ⟨cret_is (by simp), below_two _ _ _⟩
  · rw [if_neg h1]
    have k1 : (k == 1) = false := beq_eq_false_iff_ne.2 (by omega)
    have k2 : (k == 2) = false := beq_eq_false_iff_ne.2 (by omega)
    clear h1
    generalize number dr = sx at S ⊢
    generalize number du = sy at T ⊢
    cases sx with
    | false =>
      go_enter Try.func67, Try.ntmps67
      go_wp2_with (first
        | (go_at_call 79; (with_reducible refine (S _).mono ?_); rintro e w1 ⟨rfl, hw1⟩; obtain rfl : _ = w1 := hw1.symm))
      go_ret
      exact ⟨rfl, below_two _ _ _⟩
    | true =>
      cases sy with
      | false =>
        go_enter Try.func67, Try.ntmps67
        go_wp2_with (first
          | (go_at_call 79; (with_reducible refine (S _).mono ?_); rintro e w1 ⟨rfl, hw1⟩; obtain rfl : _ = w1 := hw1.symm)
          | (go_at_call 79; (with_reducible refine (T _).mono ?_); rintro e w2 ⟨rfl, hw2⟩; obtain rfl : _ = w2 := hw2.symm))
        go_ret
        exact ⟨rfl, below_two _ _ _⟩
      | true =>
        go_enter Try.func67, Try.ntmps67
        go_wp2_with (first
          | (go_at_call 79; (with_reducible refine (S _).mono ?_); rintro e w1 ⟨rfl, hw1⟩; obtain rfl : _ = w1 := hw1.symm)
          | (go_at_call 79; (with_reducible refine (T _).mono ?_); rintro e w2 ⟨rfl, hw2⟩; obtain rfl : _ = w2 := hw2.symm))
        go_ret
        exact ⟨cret_is (by simp), below_two _ _ _⟩
end Go.Proofs
