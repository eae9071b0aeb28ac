/- The law CursorCover of this program, as a contract. No conditions. -/
import Derived.Test.YtokbhkedmfbgjaaRefMore
import Derived.Test.YtokbhkedmfbgjaaCoverPlain
namespace Go.Proofs
open Go.RowKit Go.Shelf Go.Cur

set_option maxRecDepth 100000 in
set_option maxHeartbeats 4000000 in
theorem Try.CursorCover_calls (s : ByteArray) (w : World) (hs : s.size ≤ maxLen) :
    Calls Try.prog 6 #[.string s] w fun e w' => e = .returned (.bool true) ∧ Below w.heap.size w w' := by
  unfold maxLen at hs
  by_cases hbig : 2000 < s.size
  · have hd : decide ((2000 : Int) < (s.size : Int)) = true := decide_eq_true (by omega)
    clear hbig
    go_enter Try.func6, Try.ntmps6
    go_wp2_with (go_at_call 9; refine (Try.shown_calls _).mono ?_; rintro e w1 ⟨rfl, hb1⟩)
    go_ret
    exact ⟨rfl, hb1⟩
  · have hd : decide ((2000 : Int) < (s.size : Int)) = false := decide_eq_false (by omega)
    have hmx : Try.prog.follows .mixedOrders = true := by kernel_rfl
    have hln := lines_len s
    have hln2 : (lines s.data.toList).length ≤ 2001 := by omega
    have hss : s.size ≤ 2000 := by omega
    have HL := Lib.hid (show s.data.toList.length = s.size by simp)
    clear hbig hln
    go_enter Try.func6, Try.ntmps6
    go_wp2_with (go_at_call 9; refine (Try.shown_calls _).mono ?_; rintro e w1 ⟨rfl, hb1⟩)
    refine (Try.Lines_calls s _ (by omega)).mono ?_
    rintro e w2 ⟨v, rfl, ho, hb2⟩
    have hv := hasLines_of_owns ho
    have B : Below w.heap.size w w2 := hb1.trans (hb2.mono hb1.size)
    clear ho hb1 hb2
    rcases hv.split with ⟨hn, ao, cap, rfl⟩ | ⟨hpos, g, cap, rfl, hg⟩
    · have he : s.size = 0 := by
        have h1 := start_zero s.data.toList
        have h2 := start_out s.data.toList
        rw [hn] at h2
        have h3 := HL.out
        simp only [List.length_nil] at h2
        omega
      have hse : s = ⟨#[]⟩ := by
        cases s with
        | mk d => exact congrArg ByteArray.mk (Array.eq_empty_of_size_eq_zero he)
      subst hse
      clear hv hn HL he hss hs hln2
      go_wp2_with (fail)
      go_loopw [4, 5] (fun a i wr => a = .int .i64 0 ∧ i = .int .i64 0 ∧ Below w.heap.size w wr) (fun _ _ _ => 0)
      case atStart => exact ⟨rfl, rfl, B⟩
      case round =>
        obtain ⟨rfl, rfl, hB⟩ := hrel
        go_wp2
        go_ret
        exact ⟨rfl, hB⟩
    · have HV := Lib.hid hv
      clear hv
      go_wp2_with (fail)
      go_loopw [4, 5] (fun at' i wr => ∃ k : Nat, k ≤ (lines s.data.toList).length ∧ i = .int .i64 (k : Int) ∧ at' = .int .i64 (startL s.data.toList k : Nat) ∧ Below w2.heap.size w2 wr) (fun _ i _ => (lines s.data.toList).length - (intOf i).toNat)
      case atStart => exact ⟨0, Nat.zero_le _, rfl, by rw [start_zero]; rfl, Below.refl _ _⟩
      case round =>
        obtain ⟨k, hk, rfl, rfl, hB⟩ := hrel
        by_cases hlt : k < (lines s.data.toList).length
        · obtain ⟨⟨a, b, c⟩, hp⟩ : ∃ p, (lines s.data.toList)[k]? = some p := ⟨_, List.getElem?_eq_getElem hlt⟩
          obtain ⟨f0, f1, f2, f3, f4, f5, f6, f7⟩ := line_facts hp
          rw [HL.out] at f4
          rw [start_of hp]
          obtain ⟨_, x0, x1, x2⟩ := HV.out.at hp
          replace x0 := (hB.cell (p := ⟨g, k * 3, none⟩) hg).trans x0
          replace x1 := (hB.cell (p := ⟨g, k * 3 + 1, none⟩) hg).trans x1
          replace x2 := (hB.cell (p := ⟨g, k * 3 + 2, none⟩) hg).trans x2
          have hw := fun w1 : World => Try.Where_calls s (a : Int) w1 (by omega) (by omega) (by omega)
          rw [f6] at hw
          have HW := Lib.hid hw
          have HN := Lib.hid f0
          have HF := Lib.hid f7
          clear hp f0 f6 f7 hw
          have d1 : decide (b < a) = false := decide_eq_false (by omega)
          have d2 : decide (c < b) = false := decide_eq_false (by omega)
          have d3 : decide (c ≤ a) = false := decide_eq_false (by omega)
          have d4 : decide (s.size < c) = false := decide_eq_false (by omega)
          have d5 : decide ((2 : Int) < (c : Int) - (b : Int)) = false := decide_eq_false (by omega)
          have w1' : IntKind.i64.wrap ((c : Int) - (b : Int)) = (c : Int) - (b : Int) := IntWalk.i64_in _ (by omega)
          go_wp2
          go_quiet (fail)
          obtain ⟨w5, hw5⟩ : ∃ w5, w5 = wr.drewN nq := ⟨_, rfl⟩
          rw [← hw5]
          have hB5 : Below w2.heap.size w2 w5 := by rw [hw5]; exact hB.trans ⟨rfl, rfl, rfl, Nat.le_refl _, fun _ _ => rfl⟩
          replace x0 : w5.cell? ⟨g, k * 3, none⟩ = some (.int .i64 (a : Nat)) := by rw [hw5]; exact x0
          replace x1 : w5.cell? ⟨g, k * 3 + 1, none⟩ = some (.int .i64 (b : Nat)) := by rw [hw5]; exact x1
          replace x2 : w5.cell? ⟨g, k * 3 + 2, none⟩ = some (.int .i64 (c : Nat)) := by rw [hw5]; exact x2
          have hr : g < w5.heap.size := Nat.lt_of_lt_of_le hg hB5.size
          clear hw5 hB w1' d1 d2 d3 d4 d5
          go_wp2_with (go_at_call 18; refine (HW.out _).mono ?_; rintro e w6 ⟨rfl, hb6⟩; have z0 := (hb6.cell (p := ⟨g, k * 3, none⟩) hr).trans x0; have z1 := (hb6.cell (p := ⟨g, k * 3 + 1, none⟩) hr).trans x1; have z2 := (hb6.cell (p := ⟨g, k * 3 + 2, none⟩) hr).trans x2)
          have hB6 : Below w2.heap.size w2 w6 := hB5.trans (hb6.mono hB5.size)
          clear hb6 x0 x1 x2 hr
          go_loop [9] (fun v => ∃ j : Nat, a ≤ j ∧ j ≤ b ∧ v = .int .i64 (j : Int)) (fun v => b - (intOf v).toNat)
          case atStart => exact ⟨a, Nat.le_refl _, f1, rfl⟩
          case round =>
            obtain ⟨j, hj1, hj2, rfl⟩ := hrel
            by_cases hjb : j < b
            · have hjs : j < s.size := by omega
              have hf := HF.out j hj1 hjb
              rw [list_get s j hjs] at hf
              have h10 : (((s[j]'hjs).toNat : Int) == 10) = false := by
                rw [beq_eq_false_iff_ne]
                intro e
                exact hf (congrArg some (UInt8.toNat_inj.1 (by have e' : (s[j]'hjs).toNat = 10 := by omega
                                                               exact e')))
              clear hf
              go_wp2
              go_round
              case rel => exact ⟨j + 1, by omega, by omega, by go_num⟩
              case measure => simp [intOf]; omega
            · go_wp2
              go_roundw
              case rel => exact ⟨k + 1, by omega, by go_num, by rw [HN.out], hB6⟩
              case measure => simp [intOf]; omega
        · have hkk : k = (lines s.data.toList).length := by omega
          subst hkk
          rw [start_out, HL.out]
          go_wp2
          go_ret
          exact ⟨by simp, B.trans (hB.mono B.size)⟩
#print axioms Try.CursorCover_calls
end Go.Proofs
