/- The document's own Key of (a key alone) this program, as a contract. Conditions: a text of at most two million bytes. -/
import Derived.Test.YtlgdhopiifoikaaRKey
import Derived.RegionTactic
import Derived.ChangeAlike
namespace Go.Proofs
open Go.RowKit Go.Shelf Go.Wds
set_option maxRecDepth 100000 in
set_option maxHeartbeats 4000000 in
theorem Try.rKey_alone (s : ByteArray) (a b : Nat) (w : World) (hs : s.size ≤ 2000000) (hab : a ≤ b) (hb : b ≤ s.size) (hik : isKey (keyPart s a b) = true) (hcol : seekL colB s.data.toList a b = b) :
    Calls Try.prog 18 #[.string s, .int .i64 (a : Int), .int .i64 (b : Int)] w fun e w' => e = .returned (keyV (keyPart s a b) b b true) ∧ Below w.heap.size w w' := by
  have hown := fun w1 (h : Below (w.alloc (.cells #[.int .i64 0, .int .i64 0] 33)).heap.size (w.alloc (.cells #[.int .i64 0, .int .i64 0] 33)) w1) => pair_own h
  have HO := Lib.hid hown
  clear hown
  have hc := Lib.hid fun w => Try.places_calls s (a : Int) (b : Int) w
  rw [inB_nat hab hb] at hc
  have hcb : seekL colB s.data.toList a b ≤ b := seek_le hab
  have hca : a ≤ seekL colB s.data.toList a b := seek_ge _ _ _ _
  obtain ⟨hF1, hF2, hF3, _⟩ := is_trim (l := s.data.toList) hca (by simp; omega)
  have C2 := Lib.hid fun W => Try.rtrim_calls s a (seekL colB s.data.toList a b) W hca (by omega) hs
  have C3 := Lib.hid fun W => Try.rtextN s (trimL s.data.toList a (seekL colB s.data.toList a b)).1 (trimL s.data.toList a (seekL colB s.data.toList a b)).2 W hF2 (by omega)
  have hks : (keyPart s a b).size ≤ 2000000 := by unfold keyPart; rw [extract_size' s hF2 (by omega)]; omega
  obtain ⟨⟨F, T⟩, hFT⟩ : ∃ FT, trimL s.data.toList a (seekL colB s.data.toList a b) = FT := ⟨_, rfl⟩
  have hK : s.extract F T = keyPart s a b := by unfold keyPart; rw [hFT]
  rw [hFT] at C2 C3
  simp only at C2 C3
  rw [hK] at C3
  obtain ⟨K, hK2⟩ : ∃ K, keyPart s a b = K := ⟨_, rfl⟩
  rw [hK2] at C3 hks hik
  try rw [hK2]
  rw [isKey_eq] at hik
  have HIK := Lib.hid hik
  rw [hcol] at C2 hcb hca
  have HCC := Lib.hid hcol
  have HKL := Lib.hid (show K.data.toList.length = K.size by simp)
  clear hcol hFT hK hK2 hF1 hF2 hF3 hik
  go_enter Try.func18, Try.ntmps18
  go_wp2_with (go_at_call 29; (with_reducible refine (hc.out _).mono ?_); rintro e w1 ⟨rfl, hw1⟩; subst hw1)
  go_loop [9] (fun v => ∃ k : Nat, v = .int .i64 (k : Int) ∧ a ≤ k ∧ k ≤ b ∧ ∀ j x, a ≤ j → j < k → s.data.toList[j]? = some x → colB x = false) (fun v => b - (intOf v).toNat)
  case atStart => exact ⟨a, rfl, Nat.le_refl _, hab, fun j x h1 h2 => by omega⟩
  case round =>
    obtain ⟨k, rfl, hak, hkb, hno⟩ := hrel
    by_cases hlt : k < b
    · have hks2 : k < s.size := by omega
      by_cases h58 : (s[k]'hks2) = 58
      · have hkc : k = b := by rw [← HCC.out]; exact (seek_eq hak hkb hno (fun _ => ⟨_, list_get s k hks2, by unfold colB; rw [h58]; rfl⟩)).symm
        have d1 : (((s[k]'hks2).toNat : Int) != 58) = false := by rw [h58]; rfl
        clear hno h58
        exact absurd hkc (by omega)
      · have HN := Lib.hid (col_step hlt hak hno hks2 h58)
        have d1 : (((s[k]'hks2).toNat : Int) != 58) = true := by
          rw [bne_iff_ne]
          intro e
          exact h58 (UInt8.toNat_inj.1 (by have e' : (s[k]'hks2).toNat = 58 := by omega
                                           exact e'))
        clear hno h58
        go_wp2
        go_round
        case rel => exact ⟨k + 1, by go_num, by omega, by omega, HN.out⟩
        case measure => simp [intOf]; omega
    · have hkc : k = b := by rw [← HCC.out]; exact (seek_eq hak hkb hno (fun h => absurd h hlt)).symm
      clear hno
      have hkc2 : b = k := hkc.symm
      clear hkc
      subst hkc2
      go_wp2_with (fail)
      refine (C2.out _).mono ?_
      rintro e w2 ⟨rfl, hb2⟩
      go_wp2_with (fail)
      refine (C3.out _).mono ?_
      rintro e w3 ⟨rfl, hb3⟩
      have B3 := hb2.trans (hb3.mono hb2.size)
      clear hb2 hb3 C2 C3
      obtain ⟨r0, r1, f0, f1, hz⟩ := HO.out _ B3
      have hB : Below w.heap.size w w3 := ((Below.refl _ _).alloc (Nat.le_refl _) _).trans (B3.mono (by simp))
      clear B3
      have hsz := HIK.out
      rw [Bool.and_eq_true, Bool.and_eq_true, decide_eq_true_iff, decide_eq_true_iff] at hsz
      obtain ⟨⟨hs1, hs40⟩, hall⟩ := hsz
      have e1 := not_empty K (by omega)
      have e2 : ¬ K.toList = [] := fun h => by rw [h] at e1; cases e1
      have d40 : decide ((40 : Int) < (K.size : Int)) = false := decide_eq_false (by omega)
      have HALL := Lib.hid (fun x hx => (List.all_eq_true.1 (show K.data.toList.all (ofB keyP) = true from hall)) x hx)
      clear HIK hall hs1 hs40
      go_wp2
      clear e1 e2 d40
      go_loop [11] (fun v => ∃ m : Nat, v = .int .i64 (m : Int) ∧ m ≤ K.size) (fun v => K.size - (intOf v).toNat)
      case atStart => exact ⟨0, rfl, Nat.zero_le _⟩
      case round =>
        obtain ⟨m, rfl, hm⟩ := hrel
        by_cases hltm : m < K.size
        · have hqc : keyP (K[m]'hltm).toNat = true := HALL.out _ (List.mem_of_getElem? (list_get K m hltm))
          rw [keyP_eq, decide_eq_true_iff] at hqc
          have hparts : ((48 ≤ (K[m]'hltm).toNat ∧ (K[m]'hltm).toNat ≤ 57) ∨ (65 ≤ (K[m]'hltm).toNat ∧ (K[m]'hltm).toNat ≤ 90) ∨ (K[m]'hltm).toNat = 95) := by omega
          clear hqc
          rcases hparts with hp | hp | hp
          all_goals
            first | have d1 : decide ((((K[m]'hltm).toNat : Nat) : Int) < 65) = true := decide_eq_true (by omega) | have d1 : decide ((((K[m]'hltm).toNat : Nat) : Int) < 65) = false := decide_eq_false (by omega)
            first | have d2 : decide ((90 : Int) < (((K[m]'hltm).toNat : Nat) : Int)) = true := decide_eq_true (by omega) | have d2 : decide ((90 : Int) < (((K[m]'hltm).toNat : Nat) : Int)) = false := decide_eq_false (by omega)
            first | have d3 : decide ((((K[m]'hltm).toNat : Nat) : Int) < 48) = true := decide_eq_true (by omega) | have d3 : decide ((((K[m]'hltm).toNat : Nat) : Int) < 48) = false := decide_eq_false (by omega)
            first | have d4 : decide ((57 : Int) < (((K[m]'hltm).toNat : Nat) : Int)) = true := decide_eq_true (by omega) | have d4 : decide ((57 : Int) < (((K[m]'hltm).toNat : Nat) : Int)) = false := decide_eq_false (by omega)
            first | have d5 : ((((K[m]'hltm).toNat : Nat) : Int) != 95) = true := bne_iff_ne.2 (by omega) | have d5 : ((((K[m]'hltm).toNat : Nat) : Int) != 95) = false := bne_eq_false_iff_eq.2 (by omega)
            clear hp
            go_wp2
            go_round
            case rel => exact ⟨m + 1, by go_num, by omega⟩
            case measure => simp [intOf]; omega
        · clear HALL HKL hks
          go_wp2
          obtain ⟨V, hV⟩ : ∃ V, V = w3.alloc (.cells #[.int .i64 (b : Int), .int .i64 (b : Int)] 33) := ⟨_, rfl⟩
          rw [← hV]
          have hkV : Below w3.heap.size w3 V := by rw [hV]; exact (Below.refl _ _).alloc (Nat.le_refl _) _
          have hBV : Below w.heap.size w V := hB.trans (hkV.mono hB.size)
          have hT : Two V w3.heap.size (.int .i64 (b : Int)) (.int .i64 (b : Int)) := by rw [hV]; exact Two.new _ _ _ _
          have hR : Two V w.heap.size (.int .i64 0) (.int .i64 0) := (show Two w3 w.heap.size (.int .i64 0) (.int .i64 0) from ⟨r0, r1, f0, f1⟩).later hkV hz
          clear hV r0 r1 f0 f1 hkV
          obtain ⟨x0, x1, _, _⟩ := hT
          obtain ⟨r0, r1, f0, f1⟩ := hR
          go_region
          go_wp2
          refine bodyPost_ret (v := keyV K b b true) (by simp [results, Try.results18, go_sem, keyV, r0, r1]) rfl ⟨rfl, ?_⟩
          exact (hBV.drew.setCell (by simp) _).setCell (by simp) _

end Go.Proofs
