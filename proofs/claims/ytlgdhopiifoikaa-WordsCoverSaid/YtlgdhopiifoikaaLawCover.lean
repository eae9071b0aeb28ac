/- The law WordsCover of this program, as a contract. No conditions. -/
import Derived.Test.YtlgdhopiifoikaaShown
namespace Go.Wds
/-- What stands at the head of the round m: the words from m on are those from a on; ahead of a later one is a blank. -/
def Cov (l : List UInt8) (ps : List (Nat × Nat)) (m a : Nat) : Prop := a ≤ l.length ∧ (m ≤ ps.length → Runs l l.length a (ps.drop m) ∧ (0 < m → a < l.length → ∀ x, l[a]? = some x → blk x = true))
theorem cov_step {l : List UInt8} {ps : List (Nat × Nat)} {m a p q : Nat} (h : Cov l ps m a) (hp : ps[m]? = some (p, q)) :
    a ≤ p ∧ p < q ∧ q ≤ l.length ∧ Blank l a p ∧ Ink l p q ∧ (0 < m → a < p) ∧ Cov l ps (m + 1) q := by
  obtain ⟨hm, e⟩ := List.getElem?_eq_some_iff.1 hp
  obtain ⟨h1, h2⟩ := h.2 (by omega)
  rw [List.drop_eq_getElem_cons hm, e] at h1
  obtain ⟨g1, g2, g3, g4, g5, g6, g7⟩ := h1
  refine ⟨g1, g2, g3, g4, g5, fun h0 => ?_, g3, fun _ => ⟨g7, fun _ => g6⟩⟩
  rcases Nat.lt_or_ge a p with h | h
  · exact h
  · have e : a = p := by omega
    subst e
    obtain ⟨x, hx⟩ := at_len (l := l) (j := a) (by omega)
    have := h2 h0 (by omega) x hx
    rw [g5 a x (Nat.le_refl _) g2 hx] at this
    cases this
theorem cov_end {l : List UInt8} {ps : List (Nat × Nat)} {a : Nat} (h : Cov l ps ps.length a) : Blank l a l.length := by
  have := (h.2 (Nat.le_refl _)).1
  rw [List.drop_length] at this
  exact this
theorem blk_parts {c : UInt8} (h : blk c = true) : ((c.toNat : Int) != 32) = false ∨ (((c.toNat : Int) != 32) = true ∧ ((c.toNat : Int) != 9) = false) := by
  unfold blk at h
  rw [Bool.or_eq_true, beq_iff_eq, beq_iff_eq] at h
  rcases h with rfl | rfl
  · exact .inl rfl
  · exact .inr ⟨rfl, rfl⟩
theorem ink_parts {c : UInt8} (h : blk c = false) : ((c.toNat : Int) == 32) = false ∧ ((c.toNat : Int) == 9) = false := by
  unfold blk at h
  rw [Bool.or_eq_false_iff, beq_eq_false_iff_ne, beq_eq_false_iff_ne] at h
  constructor
  · rw [beq_eq_false_iff_ne]
    intro e
    exact h.1 (UInt8.toNat_inj.1 (by have e' : c.toNat = 32 := by omega
                                     exact e'))
  · rw [beq_eq_false_iff_ne]
    intro e
    exact h.2 (UInt8.toNat_inj.1 (by have e' : c.toNat = 9 := by omega
                                     exact e'))
end Go.Wds
namespace Go.Proofs
open Go.RowKit Go.Shelf Go.Wds

set_option maxRecDepth 100000 in
set_option maxHeartbeats 4000000 in
theorem Try.WordsCover_calls (s : ByteArray) (w : World) (hs : s.size ≤ maxLen) :
    Calls Try.prog 7 #[.string s] w fun e w' => e = .returned (.bool true) ∧ Below w.heap.size w w' := by
  unfold maxLen at hs
  by_cases hbig : 1000 < s.size
  · have hd : decide ((1000 : Int) < (s.size : Int)) = true := decide_eq_true (by omega)
    clear hbig
    go_enter Try.func7, Try.ntmps7
    go_wp2_with (go_at_call 10; refine (Try.shown_calls _).mono ?_; rintro e w1 ⟨rfl, hb1⟩)
    go_ret
    exact ⟨rfl, hb1⟩
  · have hd : decide ((1000 : Int) < (s.size : Int)) = false := decide_eq_false (by omega)
    have hss : s.size ≤ 1000 := by omega
    have hlen : s.data.toList.length = s.size := by simp
    have hpl := words_len s.data.toList 0 s.size
    have hcov : Cov s.data.toList (wordsL s.data.toList 0 s.size) 0 0 := ⟨Nat.zero_le _, fun _ => ⟨by rw [hlen]; exact runs_of (Nat.zero_le _) (by omega), fun h => by omega⟩⟩
    have C1 := Lib.hid fun W => Try.Fields_calls s ((0 : Nat) : Int) ((s.size : Nat) : Int) W (by omega)
    rw [fieldsI_nat (Nat.zero_le _) (Nat.le_refl _)] at C1
    obtain ⟨ps, hps⟩ : ∃ ps, wordsL s.data.toList 0 s.size = ps := ⟨_, rfl⟩
    rw [hps] at hcov C1 hpl
    have HCV := Lib.hid hcov
    have HL := Lib.hid hlen
    have hpl2 : ps.length ≤ 1000 := by omega
    clear hbig hps hcov hlen hs hpl
    go_enter Try.func7, Try.ntmps7
    go_wp2_with (go_at_call 10; refine (Try.shown_calls _).mono ?_; rintro e w1 ⟨rfl, hb1⟩)
    refine (C1.out _).mono ?_
    rintro e w2 ⟨v, rfl, hv, hb2⟩
    obtain ⟨ao, cap, rfl, hcells⟩ := hv
    have HC := Lib.hid hcells
    have B : Below w.heap.size w w2 := hb1.trans (hb2.mono hb1.size)
    clear hcells hb1 hb2 C1
    go_wp2_with (fail)
    go_loop [4, 5] (fun at' i => ∃ m a : Nat, i = .int .i64 (m : Int) ∧ at' = .int .i64 (a : Int) ∧ m ≤ ps.length + 1 ∧ a ≤ s.size ∧ Hid (Cov s.data.toList ps m a)) (fun _ i => ps.length + 1 - (intOf i).toNat)
    case atStart => exact ⟨0, 0, rfl, rfl, by omega, Nat.zero_le _, HCV⟩
    case round =>
      clear HCV
      obtain ⟨m, a, rfl, rfl, hm, ha, HV⟩ := hrel
      by_cases hle : m ≤ ps.length
      · by_cases hlt : m < ps.length
        · obtain ⟨⟨p, q⟩, hp⟩ : ∃ p, ps[m]? = some p := ⟨_, List.getElem?_eq_getElem hlt⟩
          obtain ⟨g, rfl, hg, x0, x1⟩ := HC.out m p q hp
          obtain ⟨f1, f2, f3, f4, f5, f6, f7⟩ := cov_step HV.out hp
          rw [HL.out] at f3
          have HB := Lib.hid f4
          have HI := Lib.hid f5
          have HN := Lib.hid f7
          have t1 : decide (q ≤ p) = false := decide_eq_false (by omega)
          have t3 : decide (p < a) = false := decide_eq_false (by omega)
          have t4 : decide (s.size < q) = false := decide_eq_false (by omega)
          by_cases hm0 : 0 < m
          · have t0 : decide (0 < m) = true := decide_eq_true hm0
            have t0' : decide ((0 : Int) < (m : Int)) = true := decide_eq_true (by omega)
            have f8 := f6 hm0
            have t2 : decide (p ≤ a) = false := decide_eq_false (by omega)
            clear hp f4 f5 f6 f7 HV hm0
            go_wp2
            go_loop [8] (fun v => ∃ k : Nat, a ≤ k ∧ k ≤ p ∧ v = .int .i64 (k : Int)) (fun v => p - (intOf v).toNat)
            case atStart => exact ⟨a, Nat.le_refl _, f1, rfl⟩
            case round =>
              obtain ⟨k, hk1, hk2, rfl⟩ := hrel
              by_cases hkp : k < p
              · have hks : k < s.size := by omega
                have hb := blk_parts (HB.out k _ hk1 hkp (list_get s k hks))
                rcases hb with d1 | ⟨d1, d2⟩
                all_goals
                  go_wp2
                  go_round
                  case rel => exact ⟨k + 1, by omega, by omega, by go_num⟩
                  case measure => simp [intOf]; omega
              · go_wp2
                go_loop [9] (fun v => ∃ j : Nat, p ≤ j ∧ j ≤ q ∧ v = .int .i64 (j : Int)) (fun v => q - (intOf v).toNat)
                case atStart => exact ⟨p, Nat.le_refl _, by omega, rfl⟩
                case round =>
                  obtain ⟨j, hj1, hj2, rfl⟩ := hrel
                  by_cases hjq : j < q
                  · have hjs : j < s.size := by omega
                    obtain ⟨d1, d2⟩ := ink_parts (HI.out j _ hj1 hjq (list_get s j hjs))
                    go_wp2
                    go_round
                    case rel => exact ⟨j + 1, by omega, by omega, by go_num⟩
                    case measure => simp [intOf]; omega
                  · go_wp2
                    go_round
                    case rel => exact ⟨m + 1, q, by go_num, rfl, by omega, f3, HN⟩
                    case measure => simp [intOf]; omega
          · have t0 : decide (0 < m) = false := decide_eq_false hm0
            have t0' : decide ((0 : Int) < (m : Int)) = false := decide_eq_false (by omega)
            clear hp f4 f5 f6 f7 HV hm0
            go_wp2
            go_loop [8] (fun v => ∃ k : Nat, a ≤ k ∧ k ≤ p ∧ v = .int .i64 (k : Int)) (fun v => p - (intOf v).toNat)
            case atStart => exact ⟨a, Nat.le_refl _, f1, rfl⟩
            case round =>
              obtain ⟨k, hk1, hk2, rfl⟩ := hrel
              by_cases hkp : k < p
              · have hks : k < s.size := by omega
                have hb := blk_parts (HB.out k _ hk1 hkp (list_get s k hks))
                rcases hb with d1 | ⟨d1, d2⟩
                all_goals
                  go_wp2
                  go_round
                  case rel => exact ⟨k + 1, by omega, by omega, by go_num⟩
                  case measure => simp [intOf]; omega
              · go_wp2
                go_loop [9] (fun v => ∃ j : Nat, p ≤ j ∧ j ≤ q ∧ v = .int .i64 (j : Int)) (fun v => q - (intOf v).toNat)
                case atStart => exact ⟨p, Nat.le_refl _, by omega, rfl⟩
                case round =>
                  obtain ⟨j, hj1, hj2, rfl⟩ := hrel
                  by_cases hjq : j < q
                  · have hjs : j < s.size := by omega
                    obtain ⟨d1, d2⟩ := ink_parts (HI.out j _ hj1 hjq (list_get s j hjs))
                    go_wp2
                    go_round
                    case rel => exact ⟨j + 1, by omega, by omega, by go_num⟩
                    case measure => simp [intOf]; omega
                  · go_wp2
                    go_round
                    case rel => exact ⟨m + 1, q, by go_num, rfl, by omega, f3, HN⟩
                    case measure => simp [intOf]; omega
        · have hmm : m = ps.length := by omega
          subst hmm
          have f4 := cov_end HV.out
          rw [HL.out] at f4
          have HB := Lib.hid f4
          have HI : Hid (Ink s.data.toList s.size s.size) := fun j x h1 h2 => by omega
          have HN : Hid (Cov s.data.toList ps (ps.length + 1) s.size) := ⟨by rw [HL.out]; exact Nat.le_refl _, fun h => by omega⟩
          have f1 : a ≤ s.size := ha
          have f3 : s.size ≤ s.size := Nat.le_refl _
          have t3 : decide (s.size < a) = false := decide_eq_false (by omega)
          have t4 : decide (s.size < s.size) = false := decide_eq_false (by omega)
          clear f4 HV hlt
          go_wp2
          go_loop [8] (fun v => ∃ k : Nat, a ≤ k ∧ k ≤ s.size ∧ v = .int .i64 (k : Int)) (fun v => s.size - (intOf v).toNat)
          case atStart => exact ⟨a, Nat.le_refl _, f1, rfl⟩
          case round =>
            obtain ⟨k, hk1, hk2, rfl⟩ := hrel
            by_cases hkp : k < s.size
            · have hks : k < s.size := by omega
              have hb := blk_parts (HB.out k _ hk1 hkp (list_get s k hks))
              rcases hb with d1 | ⟨d1, d2⟩
              all_goals
                go_wp2
                go_round
                case rel => exact ⟨k + 1, by omega, by omega, by go_num⟩
                case measure => simp [intOf]; omega
            · go_wp2
              go_loop [9] (fun v => ∃ j : Nat, s.size ≤ j ∧ j ≤ s.size ∧ v = .int .i64 (j : Int)) (fun v => s.size - (intOf v).toNat)
              case atStart => exact ⟨s.size, Nat.le_refl _, by omega, rfl⟩
              case round =>
                obtain ⟨j, hj1, hj2, rfl⟩ := hrel
                by_cases hjq : j < s.size
                · have hjs : j < s.size := by omega
                  obtain ⟨d1, d2⟩ := ink_parts (HI.out j _ hj1 hjq (list_get s j hjs))
                  go_wp2
                  go_round
                  case rel => exact ⟨j + 1, by omega, by omega, by go_num⟩
                  case measure => simp [intOf]; omega
                · go_wp2
                  go_round
                  case rel => exact ⟨ps.length + 1, s.size, by go_num, rfl, by omega, f3, HN⟩
                  case measure => simp [intOf]
      · go_wp2
        go_ret
        exact ⟨rfl, B⟩
#print axioms Try.WordsCover_calls
end Go.Proofs
