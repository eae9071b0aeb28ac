/- The law CursorEnds of this program, as a contract. No conditions. -/
import Derived.Test.YtokbhkedmfbgjaaShown
import Derived.Test.YtokbhkedmfbgjaaEndsPlain
import Derived.Deep.QuietTactic
import Derived.BigQuiet
namespace Go.Proofs
open Go.RowKit Go.Shelf Go.Cur

theorem Try.Lines_one (x : ByteArray) (a b c : Nat) (hs : x.size ≤ 1000000) (hx : lines x.data.toList = [(a, b, c)]) (w : World) :
    Calls Try.prog 10 #[.string x] w fun e w' => ∃ g cap, e = .returned (.slice (some ⟨g, 0, none⟩) 1 cap) ∧ g < w'.heap.size ∧ Below w.heap.size w w' ∧
      w'.cell? ⟨g, 0, none⟩ = some (.int .i64 (a : Nat)) ∧ w'.cell? ⟨g, 1, none⟩ = some (.int .i64 (b : Nat)) ∧ w'.cell? ⟨g, 2, none⟩ = some (.int .i64 (c : Nat)) := by
  refine (Try.Lines_calls x w hs).mono ?_
  rintro e w' ⟨v, rfl, h1, h2⟩
  rw [hx] at h1
  obtain ⟨ao, cap, rfl, h3⟩ := hasLines_of_owns h1
  obtain ⟨g, rfl, h4, c0, c1, c2⟩ := h3 0 a b c rfl
  exact ⟨g, cap, rfl, h4, h2, c0, c1, c2⟩
theorem Try.Lines_none (x : ByteArray) (hs : x.size ≤ 1000000) (hx : lines x.data.toList = []) (w : World) :
    Calls Try.prog 10 #[.string x] w fun e w' => ∃ ao cap, e = .returned (.slice ao 0 cap) ∧ Below w.heap.size w w' := by
  refine (Try.Lines_calls x w hs).mono ?_
  rintro e w' ⟨v, rfl, h1, h2⟩
  rw [hx] at h1
  obtain ⟨ao, cap, rfl, h3⟩ := hasLines_of_owns h1
  exact ⟨ao, cap, rfl, h2⟩

theorem plain_of {s : ByteArray} (h : ∀ j : Nat, j < s.size → s.get! j ≠ 10 ∧ s.get! j ≠ 13) : ∀ c ∈ s.data.toList, c ≠ 10 ∧ c ≠ 13 := by
  intro c hc
  obtain ⟨j, hj, rfl⟩ := List.mem_iff_getElem.1 hc
  have hj' : j < s.size := by simpa using hj
  have := h j hj'
  rw [get_of s j hj'] at this
  exact this

set_option maxRecDepth 100000 in
set_option maxHeartbeats 1000000 in
theorem Try.CursorEnds_calls (s : ByteArray) (w : World) (hs : s.size ≤ maxLen) :
    Calls Try.prog 8 #[.string s] w fun e w' => e = .returned (.bool true) ∧ Below w.heap.size w w' := by
  unfold maxLen at hs
  by_cases hbig : 500 < s.size
  · have hd : decide ((500 : Int) < (s.size : Int)) = true := decide_eq_true (by omega)
    clear hbig
    go_enter Try.func8, Try.ntmps8
    go_wp2_with (go_at_call 9; refine (Try.shown_calls _).mono ?_; rintro e w1 ⟨rfl, hb1⟩)
    go_ret
    exact ⟨rfl, hb1⟩
  · have hd : decide ((500 : Int) < (s.size : Int)) = false := decide_eq_false (by omega)
    go_enter Try.func8, Try.ntmps8
    go_wp2_with (go_at_call 9; refine (Try.shown_calls _).mono ?_; rintro e w1 ⟨rfl, hb1⟩)
    go_loop [3] (fun v => ∃ k : Nat, k ≤ s.size ∧ v = .int .i64 (k : Int) ∧ ∀ j : Nat, j < k → s.get! j ≠ 10 ∧ s.get! j ≠ 13) (fun v => s.size - (intOf v).toNat)
    case atStart => exact ⟨0, Nat.zero_le _, rfl, fun j h => by omega⟩
    case round =>
      obtain ⟨k, hk, rfl, hno⟩ := hrel
      have HN := Lib.hid hno
      clear hno
      by_cases hlt : k < s.size
      · have g0 := get_of s k hlt
        by_cases hb : s[k]'hlt = 10 ∨ s[k]'hlt = 13
        · have hpart : (((s[k]'hlt).toNat : Int) == 10) = true ∨ ((((s[k]'hlt).toNat : Int) == 10) = false ∧ (((s[k]'hlt).toNat : Int) == 13) = true) := by
            rcases hb with hb | hb
            · exact .inl (by rw [hb]; rfl)
            · exact .inr ⟨by rw [hb]; rfl, by rw [hb]; rfl⟩
          clear hb g0
          rcases hpart with h10 | ⟨h10, h13⟩
          all_goals
            go_wp2
            go_ret
            exact ⟨rfl, hb1⟩
        · have h10 : (((s[k]'hlt).toNat : Int) == 10) = false := by
            rw [beq_eq_false_iff_ne]
            intro e
            exact hb (.inl (UInt8.toNat_inj.1 (by have e' : (s[k]'hlt).toNat = 10 := by omega
                                                  exact e')))
          have h13 : (((s[k]'hlt).toNat : Int) == 13) = false := by
            rw [beq_eq_false_iff_ne]
            intro e
            exact hb (.inr (UInt8.toNat_inj.1 (by have e' : (s[k]'hlt).toNat = 13 := by omega
                                                  exact e')))
          have hno2 : ∀ j : Nat, j < k + 1 → s.get! j ≠ 10 ∧ s.get! j ≠ 13 := fun j hj => by
            by_cases e : j = k
            · rw [e, g0]; exact ⟨fun h => hb (.inl h), fun h => hb (.inr h)⟩
            · exact HN.out j (by omega)
          have HN2 := Lib.hid hno2
          clear hno2 hb g0
          go_wp2
          go_round
          case rel => exact ⟨k + 1, by omega, by go_num, HN2.out⟩
          case measure => simp [intOf]; omega
      · have hks : k = s.size := by omega
        subst hks
        have hpl := plain_of HN.out
        have hsl : s.data.toList.length = s.size := by simp
        have l1 : lines (s ++ (⟨#[10]⟩ : ByteArray)).data.toList = [(0, s.size, s.size + 1)] := by
          rw [ByteArray.data_append, Array.toList_append, ← hsl]; exact lines_feed _ hpl
        have l2 : lines (s ++ (⟨#[13, 10]⟩ : ByteArray)).data.toList = [(0, s.size, s.size + 2)] := by
          rw [ByteArray.data_append, Array.toList_append, ← hsl]; exact lines_both _ hpl
        have l3 := lines_bare _ hpl
        have z1 : (s ++ (⟨#[10]⟩ : ByteArray)).size ≤ 1000000 := by rw [ByteArray.size_append]; show s.size + 1 ≤ _; omega
        have z2 : (s ++ (⟨#[13, 10]⟩ : ByteArray)).size ≤ 1000000 := by rw [ByteArray.size_append]; show s.size + 2 ≤ _; omega
        have K1 := Lib.hid (Try.Lines_one _ _ _ _ z1 l1)
        have K2 := Lib.hid (Try.Lines_one _ _ _ _ z2 l2)
        have hmx : Try.prog.follows .mixedOrders = true := by kernel_rfl
        by_cases he : s.data.toList = []
        · have hse : s = ⟨#[]⟩ := by
            cases s with
            | mk d => cases d with | mk l => cases (show l = [] from he); rfl
          subst hse
          rw [if_pos he] at l3
          have K3 := Lib.hid (Try.Lines_none _ (by decide) l3)
          clear l1 l2 l3 hpl z1 z2 he hsl HN
          go_wp2_with (fail)
          refine (K1.out _).mono ?_
          rintro e w2 ⟨g2, cap2, rfl, hg2, hb2, a0, a1, a2⟩
          go_wp2_with (fail)
          refine (K2.out _).mono ?_
          rintro e w3 ⟨g3, cap3, rfl, hg3, hb3, c0, c1, c2⟩
          go_wp2_with (fail)
          refine (K3.out _).mono ?_
          rintro e w4 ⟨ao4, cap4, rfl, hb4⟩
          have s3 := hb3.size
          have s4 := hb4.size
          replace a0 := (hb4.cell (p := ⟨g2, 0, none⟩) (Nat.lt_of_lt_of_le hg2 s3)).trans ((hb3.cell (p := ⟨g2, 0, none⟩) hg2).trans a0)
          replace a1 := (hb4.cell (p := ⟨g2, 1, none⟩) (Nat.lt_of_lt_of_le hg2 s3)).trans ((hb3.cell (p := ⟨g2, 1, none⟩) hg2).trans a1)
          replace a2 := (hb4.cell (p := ⟨g2, 2, none⟩) (Nat.lt_of_lt_of_le hg2 s3)).trans ((hb3.cell (p := ⟨g2, 2, none⟩) hg2).trans a2)
          replace c0 := (hb4.cell (p := ⟨g3, 0, none⟩) hg3).trans c0
          replace c1 := (hb4.cell (p := ⟨g3, 1, none⟩) hg3).trans c1
          replace c2 := (hb4.cell (p := ⟨g3, 2, none⟩) hg3).trans c2
          have e2 : g2 < w4.heap.size := by omega
          have e3 : g3 < w4.heap.size := by omega
          go_wp2
          go_quiet (fail)
          go_wp2
          go_ret
          exact ⟨rfl, ((((hb1.trans (hb2.mono hb1.size)).trans ((hb3.trans (hb4.mono s3)).mono (Nat.le_trans hb1.size hb2.size))).alloc (Nat.le_trans hb1.size (Nat.le_trans hb2.size (Nat.le_trans s3 s4))) _).alloc (Nat.le_trans (Nat.le_trans hb1.size (Nat.le_trans hb2.size (Nat.le_trans s3 s4))) (by simp)) _).trans ⟨rfl, rfl, rfl, Nat.le_refl _, fun _ _ => rfl⟩⟩
        · rw [if_neg he, hsl] at l3
          have K3 := Lib.hid (Try.Lines_one _ _ _ _ (by omega) l3)
          have he2 : s.toList.isEmpty = false := by
            rw [ByteArray.toList_eq]
            cases hq : s.data.toList with
            | nil => exact absurd hq he
            | cons x y => rfl
          clear l1 l2 l3 hpl z1 z2 he hsl HN
          go_wp2_with (fail)
          refine (K1.out _).mono ?_
          rintro e w2 ⟨g2, cap2, rfl, hg2, hb2, a0, a1, a2⟩
          go_wp2_with (fail)
          refine (K2.out _).mono ?_
          rintro e w3 ⟨g3, cap3, rfl, hg3, hb3, c0, c1, c2⟩
          go_wp2_with (fail)
          refine (K3.out _).mono ?_
          rintro e w4 ⟨g4, cap4, rfl, hg4, hb4, d0, d1, d2⟩
          have s3 := hb3.size
          have s4 := hb4.size
          replace a0 := (hb4.cell (p := ⟨g2, 0, none⟩) (Nat.lt_of_lt_of_le hg2 s3)).trans ((hb3.cell (p := ⟨g2, 0, none⟩) hg2).trans a0)
          replace a1 := (hb4.cell (p := ⟨g2, 1, none⟩) (Nat.lt_of_lt_of_le hg2 s3)).trans ((hb3.cell (p := ⟨g2, 1, none⟩) hg2).trans a1)
          replace a2 := (hb4.cell (p := ⟨g2, 2, none⟩) (Nat.lt_of_lt_of_le hg2 s3)).trans ((hb3.cell (p := ⟨g2, 2, none⟩) hg2).trans a2)
          replace c0 := (hb4.cell (p := ⟨g3, 0, none⟩) hg3).trans c0
          replace c1 := (hb4.cell (p := ⟨g3, 1, none⟩) hg3).trans c1
          replace c2 := (hb4.cell (p := ⟨g3, 2, none⟩) hg3).trans c2
          have e2 : g2 < w4.heap.size := by omega
          have e3 : g3 < w4.heap.size := by omega
          go_wp2
          go_quiet (fail)
          go_wp2
          go_ret
          exact ⟨rfl, ((((hb1.trans (hb2.mono hb1.size)).trans ((hb3.trans (hb4.mono s3)).mono (Nat.le_trans hb1.size hb2.size))).alloc (Nat.le_trans hb1.size (Nat.le_trans hb2.size (Nat.le_trans s3 s4))) _).alloc (Nat.le_trans (Nat.le_trans hb1.size (Nat.le_trans hb2.size (Nat.le_trans s3 s4))) (by simp)) _).trans ⟨rfl, rfl, rfl, Nat.le_refl _, fun _ _ => rfl⟩⟩
#print axioms Try.CursorEnds_calls
end Go.Proofs
