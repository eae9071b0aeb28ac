/- The document's own answers on nodes of instances: coord, demand, window, service. Conditions: the node is there. -/
import Derived.Test.YtogpnkahgkidpaaCanonMem
namespace Go.Proofs
open Go.RowKit Go.Shelf Go.Canon
attribute [local go_sem] Oper.semAt_some

theorem HasIns.node {W : World} {vn vm : Value} {x : Ins} (h : HasIns W vn vm x) {i : Nat} (hi : i < x.nodes.length) : ∃ b off cap, vn = .slice (some ⟨b, off, none⟩) x.nodes.length cap ∧ b < W.heap.size ∧ NdAt W b (off + i * 7) (at' x i) := by
  rcases h.nodes with ⟨h0, _⟩ | ⟨b, off, cap, rfl, _, _, hd⟩
  · rw [h0] at hi; cases hi
  · refine ⟨b, off, cap, rfl, hd.1, hd.2 i _ ?_⟩
    simp [at', List.getD, hi]

theorem beq_dec (a b : Int) : (a == b) = decide (a = b) := by rw [Bool.eq_iff_iff]; simp
theorem below_box (w : World) (o : Obj) : Below w.heap.size w (w.alloc o) := (Below.refl _ w).alloc (Nat.le_refl _) _
set_option maxRecDepth 100000 in
theorem Try.rservice_calls (x : Ins) (vn vm : Value) (i : Nat) (w : World) (hx : HasIns w vn vm x) (hi : i < x.nodes.length) :
    Calls Try.prog 34 #[insV x vn vm, .int .i64 (i : Int)] w fun e w' => e = .returned (.bool (serviceB x.kind (at' x i))) ∧ Below w.heap.size w w' := by
  obtain ⟨b, off, cap, rfl, hb, hd⟩ := hx.node hi
  have Z := fun (w : World) => Try.rnumber_calls (at' x i).service w
  have d0 := hd.service
  have ii : (i : Int) < (x.nodes.length : Int) := by omega
  unfold insV serviceB
  generalize x.nodes.length = L at hi ii ⊢
  generalize (at' x i).service = s at d0 Z ⊢
  generalize x.kind = k
  clear hx hd
  by_cases h1 : k = 1
  · subst h1
    rw [if_pos (.inl rfl)]
    go_enter Try.func34, Try.ntmps34
    go_wp2
    go_ret
    exact ⟨cret_is (beq_dec _ _), below_box _ _⟩
  · have k1 : (k == 1) = false := beq_eq_false_iff_ne.2 h1
    by_cases h2 : k = 2
    · subst h2
      rw [if_pos (.inr rfl)]
      go_enter Try.func34, Try.ntmps34
      go_wp2
      go_ret
      exact ⟨cret_is (beq_dec _ _), below_box _ _⟩
    · have k2 : (k == 2) = false := beq_eq_false_iff_ne.2 h2
      rw [if_neg (by omega)]
      clear h1 h2
      go_enter Try.func34, Try.ntmps34
      go_wp2_with (go_at_call 50; (with_reducible refine (Z _).mono ?_); rintro e w1 ⟨rfl, hw1⟩; obtain rfl : _ = w1 := hw1.symm)
      go_ret
      exact ⟨rfl, below_box _ _⟩
set_option maxRecDepth 100000 in
theorem Try.rdemand_calls (x : Ins) (vn vm : Value) (i : Nat) (w : World) (hx : HasIns w vn vm x) (hi : i < x.nodes.length) :
    Calls Try.prog 32 #[insV x vn vm, .int .i64 (i : Int)] w fun e w' => e = .returned (.bool (demandB x.kind i (at' x i))) ∧ Below w.heap.size w w' := by
  obtain ⟨b, off, cap, rfl, hb, hd⟩ := hx.node hi
  have Z := fun (w : World) => Try.rnumber_calls (at' x i).demand w
  have S := fun (w : World) => Try.rsigned_calls (at' x i).demand w
  have d0 := hd.demand
  have ii : (i : Int) < (x.nodes.length : Int) := by omega
  unfold insV demandB
  generalize x.nodes.length = L at hi ii ⊢
  generalize (at' x i).demand = s at d0 Z S ⊢
  generalize x.kind = k
  clear hx hd
  by_cases h1 : k = 1
  · subst h1
    rw [if_pos (.inl rfl)]
    go_enter Try.func32, Try.ntmps32
    go_wp2
    go_ret
    exact ⟨cret_is (beq_dec _ _), below_box _ _⟩
  · have k1 : (k == 1) = false := beq_eq_false_iff_ne.2 h1
    by_cases h2 : i = 0
    · have k2 : ((i : Int) == 0) = true := beq_iff_eq.2 (by omega)
      rw [if_pos (.inr h2)]
      clear h1 h2
      go_enter Try.func32, Try.ntmps32
      go_wp2
      go_ret
      exact ⟨cret_is (beq_dec _ _), below_box _ _⟩
    · have k2 : ((i : Int) == 0) = false := beq_eq_false_iff_ne.2 (by omega)
      rw [if_neg (by omega)]
      generalize number s = nb at Z ⊢
      generalize signed s = sb at S ⊢
      clear h1 h2
      cases nb with
      | true =>
        go_enter Try.func32, Try.ntmps32
        go_wp2_with (go_at_call 50; (with_reducible refine (Z _).mono ?_); rintro e w1 ⟨rfl, hw1⟩; obtain rfl : _ = w1 := hw1.symm)
        go_ret
        exact ⟨rfl, below_box _ _⟩
      | false =>
        by_cases h4 : k = 4
        · subst h4
          go_enter Try.func32, Try.ntmps32
          go_wp2_with (first
            | (go_at_call 50; (with_reducible refine (Z _).mono ?_); rintro e w1 ⟨rfl, hw1⟩; obtain rfl : _ = w1 := hw1.symm)
            | (go_at_call 51; (with_reducible refine (S _).mono ?_); rintro e w2 ⟨rfl, hw2⟩; obtain rfl : _ = w2 := hw2.symm))
          go_ret
          exact ⟨cret_is (by simp), below_box _ _⟩
        · have k4 : (k == 4) = false := beq_eq_false_iff_ne.2 h4
          have e4 : decide (k = 4) = false := decide_eq_false h4
          rw [e4]
          clear h4 e4
          go_enter Try.func32, Try.ntmps32
          go_wp2_with (first
            | (go_at_call 50; (with_reducible refine (Z _).mono ?_); rintro e w1 ⟨rfl, hw1⟩; obtain rfl : _ = w1 := hw1.symm)
            | (go_at_call 51; (with_reducible refine (S _).mono ?_); rintro e w2 ⟨rfl, hw2⟩; obtain rfl : _ = w2 := hw2.symm))
          go_ret
          exact ⟨cret_is (by simp), below_box _ _⟩
end Go.Proofs
