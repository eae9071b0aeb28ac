/- The document's own Key of this program, as a contract. Conditions: a text of at most two million bytes. -/
import Derived.Test.YtlgdhopiifoikaaKey
import Derived.Test.YtlgdhopiifoikaaRTrim
namespace Go.Wds
open Go.Proofs
theorem isKey_eq (k : ByteArray) : isKey k = (decide (1 ≤ k.size) && decide (k.size ≤ 40) && allL (ofB keyP) k.data.toList) := by
  unfold isKey fitL; rw [show k.data.toList.length = k.size by simp]
theorem col_step {s : ByteArray} {a b k : Nat} (hk : k < b) (hak : a ≤ k) (h : ∀ j c, a ≤ j → j < k → s.data.toList[j]? = some c → colB c = false) (hlt : k < s.size) (hc : (s[k]'hlt) ≠ 58) : ∀ j c, a ≤ j → j < k + 1 → s.data.toList[j]? = some c → colB c = false := fun j c h1 h2 h3 => by
  by_cases e : j = k
  · subst e
    rw [list_get s j hlt] at h3
    cases h3
    unfold colB
    rw [beq_eq_false_iff_ne]; exact hc
  · exact h j c h1 (by omega) h3
end Go.Wds
namespace Go.Proofs
open Go.RowKit Go.Shelf Go.Wds
theorem not_empty (s : ByteArray) (h0 : ¬ s.size = 0) : s.toList.isEmpty = false := by
  rw [Lib.toList_data]
  cases h : s.data.toList with
  | nil => have : s.data.toList.length = s.size := Array.length_toList; rw [h] at this; simp at this; omega
  | cons a r => rfl
theorem Try.rtextN (s : ByteArray) (a b : Nat) (w : World) (hab : a ≤ b) (hb : b ≤ s.size) :
    Calls Try.prog 16 #[.string s, .agg #[.int .i64 (a : Int), .int .i64 (b : Int)]] w fun e w' => e = .returned (.string (s.extract a b)) ∧ Below w.heap.size w w' := by
  have := Try.rText_calls s (a : Int) (b : Int) w
  rwa [textI_nat hab hb] at this

set_option maxRecDepth 100000 in
theorem Try.rKey_out (s : ByteArray) (a b : Int) (w : World) (h : inB s.size a b = false) :
    Calls Try.prog 18 #[.string s, .int .i64 a, .int .i64 b] w fun e w' => e = .returned (keyV ⟨#[]⟩ 0 0 false) ∧ Below w.heap.size w w' := by
  have hc := Lib.hid fun w => Try.places_calls s a b w
  rw [h] at hc
  obtain ⟨r0, r1, f0, f1, hz⟩ := pair_own (Below.refl _ (w.alloc (.cells #[.int .i64 0, .int .i64 0] 33)))
  clear h
  go_enter Try.func18, Try.ntmps18
  go_wp2_with (go_at_call 29; (with_reducible refine (hc.out _).mono ?_); rintro e w1 ⟨rfl, hw1⟩; subst hw1)
  refine bodyPost_ret (v := keyV ⟨#[]⟩ 0 0 false) (by simp [results, Try.results18, go_sem, keyV]) rfl ⟨rfl, ?_⟩
  exact (Below.refl _ _).alloc (Nat.le_refl _) _

set_option maxRecDepth 100000 in
set_option maxHeartbeats 4000000 in
theorem Try.rKey_none (s : ByteArray) (a b : Nat) (w : World) (hs : s.size ≤ 2000000) (hab : a ≤ b) (hb : b ≤ s.size) (hik : isKey (keyPart s a b) = false) :
    Calls Try.prog 18 #[.string s, .int .i64 (a : Int), .int .i64 (b : Int)] w fun e w' => e = .returned (keyV ⟨#[]⟩ 0 0 false) ∧ Below w.heap.size w w' := by
  have hown := fun w1 (h : Below (w.alloc (.cells #[.int .i64 0, .int .i64 0] 33)).heap.size (w.alloc (.cells #[.int .i64 0, .int .i64 0] 33)) w1) => pair_own h
  have HO := Lib.hid hown
  clear hown
  have hc := Lib.hid fun w => Try.places_calls s (a : Int) (b : Int) w
  rw [inB_nat hab hb] at hc
  have hcb : seekL colB s.data.toList a b ≤ b := seek_le hab
  have hca : a ≤ seekL colB s.data.toList a b := seek_ge _ _ _ _
  obtain ⟨hF1, hF2, hF3, _⟩ := is_trim (l := s.data.toList) hca (by simp; omega)
  have C2 := Lib.hid fun W => Try.rtrim_calls s a (seekL colB s.data.toList a b) W hca (by omega) hs
  have C3 := Lib.hid fun W => Try.rtextN s (trimL s.data.toList a (seekL colB s.data.toList a b)).1 (trimL s.data.toList a (seekL colB s.data.toList a b)).2 W hF2 (by omega)
  have hks : (keyPart s a b).size ≤ 2000000 := by unfold keyPart; rw [extract_size' s hF2 (by omega)]; omega
  obtain ⟨⟨F, T⟩, hFT⟩ : ∃ FT, trimL s.data.toList a (seekL colB s.data.toList a b) = FT := ⟨_, rfl⟩
  have hK : s.extract F T = keyPart s a b := by unfold keyPart; rw [hFT]
  rw [hFT] at C2 C3
  simp only at C2 C3
  rw [hK] at C3
  obtain ⟨K, hK2⟩ : ∃ K, keyPart s a b = K := ⟨_, rfl⟩
  rw [hK2] at C3 hks hik
  try rw [hK2]
  rw [isKey_eq] at hik
  have HIK := Lib.hid hik
  obtain ⟨c, hcc⟩ : ∃ c, seekL colB s.data.toList a b = c := ⟨_, rfl⟩
  rw [hcc] at C2 hcb hca
  have HCC := Lib.hid hcc
  have HKL := Lib.hid (show K.data.toList.length = K.size by simp)
  clear hcc hFT hK hK2 hF1 hF2 hF3 hik
  go_enter Try.func18, Try.ntmps18
  go_wp2_with (go_at_call 29; (with_reducible refine (hc.out _).mono ?_); rintro e w1 ⟨rfl, hw1⟩; subst hw1)
  go_loop [9] (fun v => ∃ k : Nat, v = .int .i64 (k : Int) ∧ a ≤ k ∧ k ≤ b ∧ ∀ j x, a ≤ j → j < k → s.data.toList[j]? = some x → colB x = false) (fun v => b - (intOf v).toNat)
  case atStart => exact ⟨a, rfl, Nat.le_refl _, hab, fun j x h1 h2 => by omega⟩
  case round =>
    obtain ⟨k, rfl, hak, hkb, hno⟩ := hrel
    by_cases hlt : k < b
    · have hks2 : k < s.size := by omega
      by_cases h58 : (s[k]'hks2) = 58
      · have hkc : k = c := by rw [← HCC.out]; exact (seek_eq hak hkb hno (fun _ => ⟨_, list_get s k hks2, by unfold colB; rw [h58]; rfl⟩)).symm
        have d1 : (((s[k]'hks2).toNat : Int) != 58) = false := by rw [h58]; rfl
        clear hno h58
        subst hkc
        go_wp2_with (fail)
        refine (C2.out _).mono ?_
        rintro e w2 ⟨rfl, hb2⟩
        go_wp2_with (fail)
        refine (C3.out _).mono ?_
        rintro e w3 ⟨rfl, hb3⟩
        have B3 := hb2.trans (hb3.mono hb2.size)
        clear hb2 hb3 C2 C3 d1
        obtain ⟨r0, r1, f0, f1, hz⟩ := HO.out _ B3
        have hB : Below w.heap.size w w3 := ((Below.refl _ _).alloc (Nat.le_refl _) _).trans (B3.mono (by simp))
        clear B3
        by_cases hz0 : K.size = 0
        · have hKe : K = ⟨#[]⟩ := by
            cases K with
            | mk d => exact congrArg ByteArray.mk (Array.eq_empty_of_size_eq_zero hz0)
          subst hKe
          clear HIK HKL hks hz0
          go_wp2
          refine bodyPost_ret (v := keyV ⟨#[]⟩ 0 0 false) (by simp [results, Try.results18, go_sem, keyV, r0, r1]) rfl ⟨rfl, ?_⟩
          exact (hB.setCell (by simp) _).setCell (by simp) _
        · have e1 := not_empty K hz0
          have e2 : ¬ K.toList = [] := fun h => by rw [h] at e1; cases e1
          by_cases h40 : 40 < K.size
          · have d40 : decide ((40 : Int) < (K.size : Int)) = true := decide_eq_true (by omega)
            clear HIK HKL hz0 h40
            go_wp2
            refine bodyPost_ret (v := keyV ⟨#[]⟩ 0 0 false) (by simp [results, Try.results18, go_sem, keyV, r0, r1]) rfl ⟨rfl, ?_⟩
            exact (hB.setCell (by simp) _).setCell (by simp) _
          · have d40 : decide ((40 : Int) < (K.size : Int)) = false := decide_eq_false (by omega)
            obtain ⟨q, hq⟩ : ∃ q, ofB keyP = q := ⟨_, rfl⟩
            have hall := HIK.out
            rw [decide_eq_true (show 1 ≤ K.size by omega), decide_eq_true (show K.size ≤ 40 by omega), Bool.true_and, Bool.true_and, hq] at hall
            have HALL := Lib.hid hall
            have HQ := Lib.hid hq
            clear HIK hall hq hz0 h40
            go_wp2
            clear e1 e2 d40
            go_loop [11] (fun v => ∃ m : Nat, v = .int .i64 (m : Int) ∧ m ≤ K.size ∧ Hid (allL q K.data.toList = allL q (K.data.toList.drop m))) (fun v => K.size - (intOf v).toNat)
            case atStart => exact ⟨0, rfl, Nat.zero_le _, Lib.hid rfl⟩
            case round =>
              obtain ⟨m, rfl, hm, HA⟩ := hrel
              by_cases hltm : m < K.size
              · have hst := allL_step (q := q) (list_get K m hltm)
                have hqc : q (K[m]'hltm) = keyP (K[m]'hltm).toNat := by rw [← HQ.out]; rfl
                rw [keyP_eq] at hqc
                have hst2 := HA.out.trans hst
                rw [hqc] at hst2
                clear hst hqc
                have hparts : ((48 ≤ (K[m]'hltm).toNat ∧ (K[m]'hltm).toNat ≤ 57) ∨ (65 ≤ (K[m]'hltm).toNat ∧ (K[m]'hltm).toNat ≤ 90) ∨ (K[m]'hltm).toNat = 95) ∨ ((K[m]'hltm).toNat < 48 ∨ (58 ≤ (K[m]'hltm).toNat ∧ (K[m]'hltm).toNat ≤ 64) ∨ (91 ≤ (K[m]'hltm).toNat ∧ (K[m]'hltm).toNat ≤ 94) ∨ 96 ≤ (K[m]'hltm).toNat) := by omega
                rcases hparts with hp | hp
                · rcases hp with hp | hp | hp
                  all_goals
                    rw [show decide ((65 ≤ (K[m]'hltm).toNat ∧ (K[m]'hltm).toNat ≤ 90) ∨ (48 ≤ (K[m]'hltm).toNat ∧ (K[m]'hltm).toNat ≤ 57) ∨ (K[m]'hltm).toNat = 95) = true from decide_eq_true (by omega), Bool.true_and] at hst2
                    have HS := Lib.hid hst2
                    clear hst2
                    first | have d1 : decide ((((K[m]'hltm).toNat : Nat) : Int) < 65) = true := decide_eq_true (by omega) | have d1 : decide ((((K[m]'hltm).toNat : Nat) : Int) < 65) = false := decide_eq_false (by omega)
                    first | have d2 : decide ((90 : Int) < (((K[m]'hltm).toNat : Nat) : Int)) = true := decide_eq_true (by omega) | have d2 : decide ((90 : Int) < (((K[m]'hltm).toNat : Nat) : Int)) = false := decide_eq_false (by omega)
                    first | have d3 : decide ((((K[m]'hltm).toNat : Nat) : Int) < 48) = true := decide_eq_true (by omega) | have d3 : decide ((((K[m]'hltm).toNat : Nat) : Int) < 48) = false := decide_eq_false (by omega)
                    first | have d4 : decide ((57 : Int) < (((K[m]'hltm).toNat : Nat) : Int)) = true := decide_eq_true (by omega) | have d4 : decide ((57 : Int) < (((K[m]'hltm).toNat : Nat) : Int)) = false := decide_eq_false (by omega)
                    first | have d5 : ((((K[m]'hltm).toNat : Nat) : Int) != 95) = true := bne_iff_ne.2 (by omega) | have d5 : ((((K[m]'hltm).toNat : Nat) : Int) != 95) = false := bne_eq_false_iff_eq.2 (by omega)
                    clear hp
                    go_wp2
                    go_round
                    case rel => exact ⟨m + 1, by go_num, by omega, HS⟩
                    case measure => simp [intOf]; omega
                · rcases hp with hp | hp | hp | hp
                  all_goals
                    clear hst2
                    first | have d1 : decide ((((K[m]'hltm).toNat : Nat) : Int) < 65) = true := decide_eq_true (by omega) | have d1 : decide ((((K[m]'hltm).toNat : Nat) : Int) < 65) = false := decide_eq_false (by omega)
                    first | have d2 : decide ((90 : Int) < (((K[m]'hltm).toNat : Nat) : Int)) = true := decide_eq_true (by omega) | have d2 : decide ((90 : Int) < (((K[m]'hltm).toNat : Nat) : Int)) = false := decide_eq_false (by omega)
                    first | have d3 : decide ((((K[m]'hltm).toNat : Nat) : Int) < 48) = true := decide_eq_true (by omega) | have d3 : decide ((((K[m]'hltm).toNat : Nat) : Int) < 48) = false := decide_eq_false (by omega)
                    first | have d4 : decide ((57 : Int) < (((K[m]'hltm).toNat : Nat) : Int)) = true := decide_eq_true (by omega) | have d4 : decide ((57 : Int) < (((K[m]'hltm).toNat : Nat) : Int)) = false := decide_eq_false (by omega)
                    first | have d5 : ((((K[m]'hltm).toNat : Nat) : Int) != 95) = true := bne_iff_ne.2 (by omega) | have d5 : ((((K[m]'hltm).toNat : Nat) : Int) != 95) = false := bne_eq_false_iff_eq.2 (by omega)
                    clear hp
                    go_wp2
                    refine bodyPost_ret (v := keyV ⟨#[]⟩ 0 0 false) (by simp [results, Try.results18, go_sem, keyV, r0, r1]) rfl ⟨rfl, ?_⟩
                    exact (hB.setCell (by simp) _).setCell (by simp) _
              · exfalso
                have hmm : m = K.size := by omega
                have h1 := HA.out
                rw [HALL.out, hmm, ← HKL.out, allL_end] at h1
                cases h1
      · have HN := Lib.hid (col_step hlt hak hno hks2 h58)
        have d1 : (((s[k]'hks2).toNat : Int) != 58) = true := by
          rw [bne_iff_ne]
          intro e
          exact h58 (UInt8.toNat_inj.1 (by have e' : (s[k]'hks2).toNat = 58 := by omega
                                           exact e'))
        clear hno h58
        go_wp2
        go_round
        case rel => exact ⟨k + 1, by go_num, by omega, by omega, HN.out⟩
        case measure => simp [intOf]; omega
    · have hkc : k = c := by rw [← HCC.out]; exact (seek_eq hak hkb hno (fun h => absurd h hlt)).symm
      clear hno
      subst hkc
      go_wp2_with (fail)
      refine (C2.out _).mono ?_
      rintro e w2 ⟨rfl, hb2⟩
      go_wp2_with (fail)
      refine (C3.out _).mono ?_
      rintro e w3 ⟨rfl, hb3⟩
      have B3 := hb2.trans (hb3.mono hb2.size)
      clear hb2 hb3 C2 C3
      obtain ⟨r0, r1, f0, f1, hz⟩ := HO.out _ B3
      have hB : Below w.heap.size w w3 := ((Below.refl _ _).alloc (Nat.le_refl _) _).trans (B3.mono (by simp))
      clear B3
      by_cases hz0 : K.size = 0
      · have hKe : K = ⟨#[]⟩ := by
          cases K with
          | mk d => exact congrArg ByteArray.mk (Array.eq_empty_of_size_eq_zero hz0)
        subst hKe
        clear HIK HKL hks hz0
        go_wp2
        refine bodyPost_ret (v := keyV ⟨#[]⟩ 0 0 false) (by simp [results, Try.results18, go_sem, keyV, r0, r1]) rfl ⟨rfl, ?_⟩
        exact (hB.setCell (by simp) _).setCell (by simp) _
      · have e1 := not_empty K hz0
        have e2 : ¬ K.toList = [] := fun h => by rw [h] at e1; cases e1
        by_cases h40 : 40 < K.size
        · have d40 : decide ((40 : Int) < (K.size : Int)) = true := decide_eq_true (by omega)
          clear HIK HKL hz0 h40
          go_wp2
          refine bodyPost_ret (v := keyV ⟨#[]⟩ 0 0 false) (by simp [results, Try.results18, go_sem, keyV, r0, r1]) rfl ⟨rfl, ?_⟩
          exact (hB.setCell (by simp) _).setCell (by simp) _
        · have d40 : decide ((40 : Int) < (K.size : Int)) = false := decide_eq_false (by omega)
          obtain ⟨q, hq⟩ : ∃ q, ofB keyP = q := ⟨_, rfl⟩
          have hall := HIK.out
          rw [decide_eq_true (show 1 ≤ K.size by omega), decide_eq_true (show K.size ≤ 40 by omega), Bool.true_and, Bool.true_and, hq] at hall
          have HALL := Lib.hid hall
          have HQ := Lib.hid hq
          clear HIK hall hq hz0 h40
          go_wp2
          clear e1 e2 d40
          go_loop [11] (fun v => ∃ m : Nat, v = .int .i64 (m : Int) ∧ m ≤ K.size ∧ Hid (allL q K.data.toList = allL q (K.data.toList.drop m))) (fun v => K.size - (intOf v).toNat)
          case atStart => exact ⟨0, rfl, Nat.zero_le _, Lib.hid rfl⟩
          case round =>
            obtain ⟨m, rfl, hm, HA⟩ := hrel
            by_cases hltm : m < K.size
            · have hst := allL_step (q := q) (list_get K m hltm)
              have hqc : q (K[m]'hltm) = keyP (K[m]'hltm).toNat := by rw [← HQ.out]; rfl
              rw [keyP_eq] at hqc
              have hst2 := HA.out.trans hst
              rw [hqc] at hst2
              clear hst hqc
              have hparts : ((48 ≤ (K[m]'hltm).toNat ∧ (K[m]'hltm).toNat ≤ 57) ∨ (65 ≤ (K[m]'hltm).toNat ∧ (K[m]'hltm).toNat ≤ 90) ∨ (K[m]'hltm).toNat = 95) ∨ ((K[m]'hltm).toNat < 48 ∨ (58 ≤ (K[m]'hltm).toNat ∧ (K[m]'hltm).toNat ≤ 64) ∨ (91 ≤ (K[m]'hltm).toNat ∧ (K[m]'hltm).toNat ≤ 94) ∨ 96 ≤ (K[m]'hltm).toNat) := by omega
              rcases hparts with hp | hp
              · rcases hp with hp | hp | hp
                all_goals
                  rw [show decide ((65 ≤ (K[m]'hltm).toNat ∧ (K[m]'hltm).toNat ≤ 90) ∨ (48 ≤ (K[m]'hltm).toNat ∧ (K[m]'hltm).toNat ≤ 57) ∨ (K[m]'hltm).toNat = 95) = true from decide_eq_true (by omega), Bool.true_and] at hst2
                  have HS := Lib.hid hst2
                  clear hst2
                  first | have d1 : decide ((((K[m]'hltm).toNat : Nat) : Int) < 65) = true := decide_eq_true (by omega) | have d1 : decide ((((K[m]'hltm).toNat : Nat) : Int) < 65) = false := decide_eq_false (by omega)
                  first | have d2 : decide ((90 : Int) < (((K[m]'hltm).toNat : Nat) : Int)) = true := decide_eq_true (by omega) | have d2 : decide ((90 : Int) < (((K[m]'hltm).toNat : Nat) : Int)) = false := decide_eq_false (by omega)
                  first | have d3 : decide ((((K[m]'hltm).toNat : Nat) : Int) < 48) = true := decide_eq_true (by omega) | have d3 : decide ((((K[m]'hltm).toNat : Nat) : Int) < 48) = false := decide_eq_false (by omega)
                  first | have d4 : decide ((57 : Int) < (((K[m]'hltm).toNat : Nat) : Int)) = true := decide_eq_true (by omega) | have d4 : decide ((57 : Int) < (((K[m]'hltm).toNat : Nat) : Int)) = false := decide_eq_false (by omega)
                  first | have d5 : ((((K[m]'hltm).toNat : Nat) : Int) != 95) = true := bne_iff_ne.2 (by omega) | have d5 : ((((K[m]'hltm).toNat : Nat) : Int) != 95) = false := bne_eq_false_iff_eq.2 (by omega)
                  clear hp
                  go_wp2
                  go_round
                  case rel => exact ⟨m + 1, by go_num, by omega, HS⟩
                  case measure => simp [intOf]; omega
              · rcases hp with hp | hp | hp | hp
                all_goals
                  clear hst2
                  first | have d1 : decide ((((K[m]'hltm).toNat : Nat) : Int) < 65) = true := decide_eq_true (by omega) | have d1 : decide ((((K[m]'hltm).toNat : Nat) : Int) < 65) = false := decide_eq_false (by omega)
                  first | have d2 : decide ((90 : Int) < (((K[m]'hltm).toNat : Nat) : Int)) = true := decide_eq_true (by omega) | have d2 : decide ((90 : Int) < (((K[m]'hltm).toNat : Nat) : Int)) = false := decide_eq_false (by omega)
                  first | have d3 : decide ((((K[m]'hltm).toNat : Nat) : Int) < 48) = true := decide_eq_true (by omega) | have d3 : decide ((((K[m]'hltm).toNat : Nat) : Int) < 48) = false := decide_eq_false (by omega)
                  first | have d4 : decide ((57 : Int) < (((K[m]'hltm).toNat : Nat) : Int)) = true := decide_eq_true (by omega) | have d4 : decide ((57 : Int) < (((K[m]'hltm).toNat : Nat) : Int)) = false := decide_eq_false (by omega)
                  first | have d5 : ((((K[m]'hltm).toNat : Nat) : Int) != 95) = true := bne_iff_ne.2 (by omega) | have d5 : ((((K[m]'hltm).toNat : Nat) : Int) != 95) = false := bne_eq_false_iff_eq.2 (by omega)
                  clear hp
                  go_wp2
                  refine bodyPost_ret (v := keyV ⟨#[]⟩ 0 0 false) (by simp [results, Try.results18, go_sem, keyV, r0, r1]) rfl ⟨rfl, ?_⟩
                  exact (hB.setCell (by simp) _).setCell (by simp) _
            · exfalso
              have hmm : m = K.size := by omega
              have h1 := HA.out
              rw [HALL.out, hmm, ← HKL.out, allL_end] at h1
              cases h1

end Go.Proofs
