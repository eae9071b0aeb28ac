/- The document's own answers on nodes of instances: mate. Conditions: the node is there. -/
import Derived.Test.YtogpnkahgkidpaaCanonCoord
namespace Go.Proofs
open Go.RowKit Go.Shelf Go.Canon
attribute [local go_sem] Oper.semAt_some

theorem HasIns.two {W : World} {vn vm : Value} {x : Ins} (h : HasIns W vn vm x) {i : Nat} (hi : i < x.nodes.length) : ∃ b off cap, vn = .slice (some ⟨b, off, none⟩) x.nodes.length cap ∧ x.nodes.length ≤ cap ∧ cap ≤ maxLen ∧ b < W.heap.size ∧ ∀ j, j < x.nodes.length → NdAt W b (off + j * 7) (at' x j) := by
  rcases h.nodes with ⟨h0, _⟩ | ⟨b, off, cap, rfl, h1, h2, hd⟩
  · rw [h0] at hi; cases hi
  · refine ⟨b, off, cap, rfl, h1, h2, hd.1, fun j hj => hd.2 j _ ?_⟩
    simp [at', List.getD, hj]
theorem cbelow_drewN {B : Nat} {a w : World} (h : Below B a w) (n : Nat) : Below B a (w.drewN n) := ⟨h.os, h.tape, h.output, h.size, h.block⟩
theorem wrap_neg (a : Int) : wrap64 (-a) = neg64 a := by
  unfold neg64 wrap64
  repeat' split
  all_goals omega
set_option maxRecDepth 100000 in
theorem Try.rmate_one (x : Ins) (vn vm : Value) (i : Nat) (w : World) (hx : HasIns w vn vm x) (hi : i < x.nodes.length) (hk : x.kind ≠ 4 ∨ i = 0) :
    Calls Try.prog 35 #[insV x vn vm, .int .i64 (i : Int)] w fun e w' => e = .returned (.bool (mateB x i)) ∧ Below w.heap.size w w' := by
  obtain ⟨b, off, cap, rfl, hb, hd⟩ := hx.node hi
  have d0 := hd.mate
  have ii : (i : Int) < (x.nodes.length : Int) := by omega
  unfold mateB
  rw [if_pos hk]
  unfold insV
  generalize x.nodes.length = L at hi ii ⊢
  generalize (at' x i).mate = s at d0 ⊢
  generalize x.kind = k at hk ⊢
  clear hx hd
  by_cases h1 : k = 4
  · subst h1
    have h2 : i = 0 := by omega
    have k2 : ((i : Int) == 0) = true := beq_iff_eq.2 (by omega)
    clear h2 hk
    go_enter Try.func35, Try.ntmps35
    go_wp2
    go_ret
    exact ⟨cret_is (beq_dec _ _), below_box _ _⟩
  · have k1 : (k != 4) = true := bne_iff_ne.2 h1
    clear h1 hk
    go_enter Try.func35, Try.ntmps35
    go_wp2
    go_ret
    exact ⟨cret_is (beq_dec _ _), below_box _ _⟩
set_option maxRecDepth 100000 in
theorem Try.rmate_four (x : Ins) (vn vm : Value) (i : Nat) (w : World) (hx : HasIns w vn vm x) (hi : i < x.nodes.length) (h4 : x.kind = 4) (h0 : i ≠ 0) :
    Calls Try.prog 35 #[insV x vn vm, .int .i64 (i : Int)] w fun e w' => e = .returned (.bool (mateB x i)) ∧ Below w.heap.size w w' := by
  obtain ⟨b, off, cap, rfl, hlc, hcm, hb, hd⟩ := hx.two hi
  have d0 := (hd i hi).mate
  have D0 := (hd i hi).demand
  have D1 := fun j hj => (hd j hj).demand
  have d1 := fun j hj => (hd j hj).mate
  have ii : (i : Int) < (x.nodes.length : Int) := by omega
  have k2 : ((i : Int) == 0) = false := beq_eq_false_iff_ne.2 (by omega)
  unfold mateB
  rw [if_neg (by omega)]
  unfold insV
  rw [h4]
  generalize x.nodes.length = L at *
  generalize hs : (at' x i).mate = s at d0 ⊢
  by_cases h1 : s < 1
  · rw [if_pos (.inl h1)]
    clear hx hd D1 d1
    go_enter Try.func35, Try.ntmps35
    go_wp2
    go_ret
    exact ⟨rfl, below_box _ _⟩
  · by_cases h2 : (L : Int) ≤ s
    · rw [if_pos (.inr (.inl h2))]
      clear hx hd D1 d1
      go_enter Try.func35, Try.ntmps35
      go_wp2
      go_ret
      exact ⟨rfl, below_box _ _⟩
    · by_cases h3 : s = (i : Int)
      · rw [if_pos (.inr (.inr (.inl h3)))]
        have k3 : (s == (i : Int)) = true := beq_iff_eq.2 h3
        clear hx hd D1 d1 h3
        go_enter Try.func35, Try.ntmps35
        go_wp2
        go_ret
        exact ⟨rfl, below_box _ _⟩
      · obtain ⟨m, rfl⟩ : ∃ m : Nat, s = (m : Int) := ⟨s.toNat, by omega⟩
        have hm : m < L := by omega
        have e1 := d1 m hm
        have E1 := D1 m hm
        have k3 : ((m : Int) == (i : Int)) = false := beq_eq_false_iff_ne.2 h3
        have mm : (m : Int) < (L : Int) := by omega
        simp only [Int.toNat_natCast]
        by_cases h5 : (at' x m).mate = (i : Int)
        · rw [if_neg (by omega)]
          rw [h5] at e1
          have eq : (decide ((at' x i).demand ≠ 0) && decide ((at' x m).demand = neg64 (at' x i).demand)) = ((at' x i).demand != 0 && ((at' x m).demand == neg64 (at' x i).demand)) := by rw [beq_dec, bne, beq_dec]; simp
          rw [eq]
          clear eq
          clear hx hd D1 d1 h3 h5 hs
          generalize (at' x m).demand = dm at E1 ⊢
          generalize (at' x i).demand = di at D0 ⊢
          by_cases hz : di = 0
          · subst hz
            go_enter Try.func35, Try.ntmps35
            go_wp2
            go_quiet (fail)
            go_wp2
            go_ret
            refine ⟨cret_is (by simp), ?_⟩
            exact cbelow_drewN (below_box _ _) _
          · have kz : (di != 0) = true := bne_iff_ne.2 hz
            rw [kz, Bool.true_and]
            clear hz
            go_enter Try.func35, Try.ntmps35
            go_wp2
            go_quiet (fail)
            go_wp2
            go_ret
            refine ⟨cret_is (by rw [← wrap_neg]), ?_⟩
            exact cbelow_drewN (below_box _ _) _
        · rw [if_pos (.inr (.inr (.inr h5)))]
          generalize (at' x m).mate = t at e1 h5
          have k5 : (t != (i : Int)) = true := bne_iff_ne.2 h5
          clear hx hd D1 d1 h3 h5 hs
          go_enter Try.func35, Try.ntmps35
          go_wp2
          go_ret
          exact ⟨rfl, below_box _ _⟩
theorem Try.rmate_calls (x : Ins) (vn vm : Value) (i : Nat) (w : World) (hx : HasIns w vn vm x) (hi : i < x.nodes.length) :
    Calls Try.prog 35 #[insV x vn vm, .int .i64 (i : Int)] w fun e w' => e = .returned (.bool (mateB x i)) ∧ Below w.heap.size w w' := by
  by_cases hk : x.kind ≠ 4 ∨ i = 0
  · exact Try.rmate_one x vn vm i w hx hi hk
  · exact Try.rmate_four x vn vm i w hx hi (by omega) (by omega)
end Go.Proofs
