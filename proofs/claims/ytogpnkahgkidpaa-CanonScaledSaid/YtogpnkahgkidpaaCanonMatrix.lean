/- The document's own answer on the matrix of an instance. Conditions: 400 nodes at most. -/
import Derived.Test.YtogpnkahgkidpaaCanonMate
namespace Go.Proofs
open Go.RowKit Go.Shelf Go.Canon
attribute [local go_sem] Oper.semAt_some

def okAt (l : List Int) (n k : Nat) : Bool := number (l.getD k 0) && !(decide (k % (n + 1) = 0) && decide (l.getD k 0 ≠ 0))
theorem matrix_no {x : Ins} (h : x.metric ≠ 0) : matrixB x = decide (x.matrix.length = 0) := by unfold matrixB; rw [if_pos h]
theorem matrix_yes {x : Ins} (h : x.metric = 0) : matrixB x = (decide (x.matrix.length = x.nodes.length * x.nodes.length) && (List.range (x.nodes.length * x.nodes.length)).all (okAt x.matrix x.nodes.length)) := by unfold matrixB; rw [if_neg (by omega)]; rfl
theorem nat_beq {a b : Nat} (c : Bool) (h : decide (a = b) = c) : ((a : Int) == (b : Int)) = c := by rw [← h, beq_dec, decide_eq_decide]; exact Int.ofNat_inj
theorem nat_bne {a b : Nat} (c : Bool) (h : decide (a = b) = !c) : ((a : Int) != (b : Int)) = c := by rw [bne, nat_beq _ h, Bool.not_not]
set_option maxRecDepth 100000 in
theorem Try.rmatrix_no (x : Ins) (vn vm : Value) (w : World) (hx : HasIns w vn vm x) (hm : x.metric ≠ 0) :
    Calls Try.prog 30 #[insV x vn vm] w fun e w' => e = .returned (.bool (matrixB x)) ∧ Below w.heap.size w w' := by
  rw [matrix_no hm]
  obtain ⟨an, cn, rfl, _⟩ := hx.nodes.dat
  obtain ⟨am, cm, rfl, _⟩ := hx.matrix.dat
  unfold insV
  have k1 : (x.metric != 0) = true := bne_iff_ne.2 hm
  generalize x.metric = k at k1 ⊢
  generalize x.nodes.length = L
  clear hx hm
  generalize x.matrix.length = M
  go_enter Try.func30, Try.ntmps30
  go_wp2
  go_ret
  exact ⟨cret_is (nat_beq (b := 0) _ rfl), below_box _ _⟩
theorem cwrap_mul {i n : Nat} (h : i * n ≤ 1000000000) : wrap64 ((i : Int) * (n : Int)) = ((i * n : Nat) : Int) := by
  rw [← Int.natCast_mul]
  generalize i * n = u at h
  unfold wrap64; omega
theorem sq_most {n : Nat} (h : n ≤ 400) : n * n ≤ 160000 := Nat.le_trans (Nat.mul_le_mul h h) (by omega)
theorem rem_beq {k L : Nat} (c : Bool) (h : decide (k % (L + 1) = 0) = c) : ((k : Int) % ((L : Int) + 1) == 0) = c := by
  rw [← h, ← nat_beq (b := 0) _ rfl]
  rfl
theorem all_next {f : Nat → Bool} {k : Nat} (h : (List.range k).all f = true) (hk : f k = true) : (List.range (k + 1)).all f = true := by rw [List.range_succ, List.all_append, h]; simp [hk]
theorem all_not {f : Nat → Bool} {k n : Nat} (h : k < n) (hk : f k = false) : (List.range n).all f = false := by
  rw [List.all_eq_false]; exact ⟨k, List.mem_range.2 h, by simp [hk]⟩
set_option maxRecDepth 100000 in
theorem Try.rmatrix_far (x : Ins) (vn vm : Value) (w : World) (hx : HasIns w vn vm x) (h4 : x.nodes.length ≤ 400) (hm : x.metric = 0) (hl : x.matrix.length ≠ x.nodes.length * x.nodes.length) :
    Calls Try.prog 30 #[insV x vn vm] w fun e w' => e = .returned (.bool (matrixB x)) ∧ Below w.heap.size w w' := by
  rw [matrix_yes hm, decide_eq_false hl, Bool.false_and]
  obtain ⟨an, cn, rfl, _⟩ := hx.nodes.dat
  obtain ⟨am, cm, rfl, _⟩ := hx.matrix.dat
  unfold insV
  rw [hm]
  have hw := cwrap_mul (i := x.nodes.length) (n := x.nodes.length) (Nat.le_trans (sq_most h4) (by omega))
  have hne := nat_bne true (decide_eq_false hl)
  generalize x.nodes.length * x.nodes.length = N at hw hne
  generalize x.nodes.length = L at *
  generalize x.matrix.length = M at *
  clear hx hm hl h4
  go_enter Try.func30, Try.ntmps30
  go_wp2
  go_ret
  exact ⟨rfl, below_box _ _⟩
set_option maxRecDepth 100000 in
set_option maxHeartbeats 1000000 in
theorem Try.rmatrix_yes (x : Ins) (vn vm : Value) (w : World) (hx : HasIns w vn vm x) (h4 : x.nodes.length ≤ 400) (h1 : 1 ≤ x.nodes.length) (hm : x.metric = 0) (hl : x.matrix.length = x.nodes.length * x.nodes.length) :
    Calls Try.prog 30 #[insV x vn vm] w fun e w' => e = .returned (.bool (matrixB x)) ∧ Below w.heap.size w w' := by
  rw [matrix_yes hm, decide_eq_true hl, Bool.true_and]
  obtain ⟨an, cn, rfl, _⟩ := hx.nodes.dat
  obtain ⟨b, off, cm, rfl, hcm, hmax, hM⟩ : ∃ b off cm, vm = .slice (some ⟨b, off, none⟩) x.matrix.length cm ∧ x.matrix.length ≤ cm ∧ cm ≤ maxLen ∧ NumsAt w b off x.matrix := by
    rcases hx.matrix with ⟨h0, _⟩ | h
    · rw [h0] at hl; have := Nat.mul_pos h1 h1; simp at hl; omega
    · exact h
  unfold insV
  rw [hm]
  have hw := cwrap_mul (i := x.nodes.length) (n := x.nodes.length) (Nat.le_trans (sq_most h4) (by omega))
  have hn := sq_most h4
  have HL := Lib.hid hl
  rw [hl]
  rw [hl] at hcm
  generalize x.nodes.length * x.nodes.length = N at *
  generalize x.nodes.length = L at *
  generalize x.matrix = l at *
  clear hx hm hl
  have HM := Lib.hid hM
  clear hM
  have Z := fun (v : Int) (w : World) => Try.rnumber_calls v w
  go_enter Try.func30, Try.ntmps30
  go_wp2
  rw [hw]
  go_loopw [4] (fun i wr => ∃ k : Nat, k ≤ N ∧ i = .int .i64 (k : Int) ∧ Hid ((List.range k).all (okAt l L) = true) ∧ wr = w.alloc (.cells #[.string x.name, .int .i64 x.kind, .int .i64 0, .int .i64 x.scale, .int .i64 x.cap, .int .i64 x.fleet, .slice an L cn, .slice (some ⟨b, off, none⟩) N cm] 36)) (fun i _ => N - (intOf i).toNat)
  case atStart => exact ⟨0, Nat.zero_le _, rfl, rfl, rfl⟩
  case round =>
    obtain ⟨k, hk, rfl, hT, rfl⟩ := hrel
    by_cases hlt : k < N
    · obtain ⟨v, hv⟩ : ∃ v, l[k]? = some v := ⟨_, List.getElem?_eq_getElem (by have := HL.out; omega)⟩
      have x0 := HM.out.2 k v hv
      have xb := HM.out.1
      have hki : (k : Int) < (N : Int) := by omega
      have hg : l.getD k 0 = v := by simp [List.getD, hv]
      have hok : okAt l L k = (number v && !(decide (k % (L + 1) = 0) && decide (v ≠ 0))) := by unfold okAt; rw [hg]
      have Zv := Z v
      clear Z hv hg
      generalize number v = nb at Zv hok
      cases nb with
      | false =>
        have HF := Lib.hid (all_not hlt (hok.trans (Bool.false_and _)))
        clear hok hT
        go_wp2_with (go_at_call 50; (with_reducible refine (Zv _).mono ?_); rintro e w1 ⟨rfl, hw1⟩; obtain rfl : _ = w1 := hw1.symm)
        go_ret
        exact ⟨cret_is HF.out.symm, below_box _ _⟩
      | true =>
        by_cases hr : k % (L + 1) = 0
        · have r0 : ((k : Int) % ((L : Int) + 1) == 0) = true := rem_beq true (decide_eq_true hr)
          rw [decide_eq_true hr, Bool.true_and] at hok
          by_cases hz : v = 0
          · subst hz
            have HF := Lib.hid (all_next hT.out (hok.trans (by simp)))
            clear hok hT hr
            go_wp2_with (go_at_call 50; (with_reducible refine (Zv _).mono ?_); rintro e w1 ⟨rfl, hw1⟩; obtain rfl : _ = w1 := hw1.symm)
            go_roundw
            case rel => exact ⟨k + 1, by omega, by go_num, HF, trivial⟩
            case measure => simp [intOf]; omega
          · have v0 : (v != 0) = true := bne_iff_ne.2 hz
            have HF := Lib.hid (all_not hlt (hok.trans (by simp [hz])))
            clear hok hT hr hz
            go_wp2_with (go_at_call 50; (with_reducible refine (Zv _).mono ?_); rintro e w1 ⟨rfl, hw1⟩; obtain rfl : _ = w1 := hw1.symm)
            go_ret
            exact ⟨cret_is HF.out.symm, below_box _ _⟩
        · have r0 : ((k : Int) % ((L : Int) + 1) == 0) = false := rem_beq false (decide_eq_false hr)
          rw [decide_eq_false hr, Bool.false_and] at hok
          have HF := Lib.hid (all_next hT.out (hok.trans (by simp)))
          clear hok hT hr
          go_wp2_with (go_at_call 50; (with_reducible refine (Zv _).mono ?_); rintro e w1 ⟨rfl, hw1⟩; obtain rfl : _ = w1 := hw1.symm)
          go_roundw
          case rel => exact ⟨k + 1, by omega, by go_num, HF, trivial⟩
          case measure => simp [intOf]; omega
    · obtain rfl : k = N := by omega
      go_wp2
      go_ret
      exact ⟨cret_is hT.out.symm, below_box _ _⟩
theorem Try.rmatrix_calls (x : Ins) (vn vm : Value) (w : World) (hx : HasIns w vn vm x) (h4 : x.nodes.length ≤ 400) (h1 : 1 ≤ x.nodes.length) :
    Calls Try.prog 30 #[insV x vn vm] w fun e w' => e = .returned (.bool (matrixB x)) ∧ Below w.heap.size w w' := by
  by_cases hm : x.metric = 0
  · by_cases hl : x.matrix.length = x.nodes.length * x.nodes.length
    · exact Try.rmatrix_yes x vn vm w hx h4 h1 hm hl
    · exact Try.rmatrix_far x vn vm w hx h4 hm hl
  · exact Try.rmatrix_no x vn vm w hx hm
end Go.Proofs
