/- The document's own Key of (a key alone) this program, as a contract. Conditions: a text of at most two million bytes. -/
import Derived.Test.YtmmmgljekoebpaaGreatDoorG03
import Derived.RegionTactic
import Derived.ChangeAlike
import Derived.Test.YtmmmgljekoebpaaGreatDoorG01
import Derived.Laws.RangeAny
import Derived.RowKit
import Derived.Test.YtmmmgljekoebpaaGreatDoorG02
import Derived.Test.YtmmmgljekoebpaaGreatDoorProg
import Derived.Shelf.Abstract
import Derived.Shelf.RegionOpen
import Derived.WalkKit
import Derived.OwnWalkIn
import Derived.TacticsInMore
import Derived.LoopNIn
import Derived.LoopIn
import Derived.Lib.OthersKept
import Derived.Lib.Hide
import Derived.OrdersIn
import Derived.Sort.QuietThIn
import Derived.Sort.QuietIn
import Derived.TacticsIn
import Derived.Maps.AppendAt
namespace Go.Proofs
open Go.RowKit Go.Shelf Go.Wds
set_option maxRecDepth 100000 in
set_option maxHeartbeats 4000000 in
theorem Tryz.rKey_alone (s : ByteArray) (a b : Nat) (w : World) (hs : s.size ≤ 2000000) (hab : a ≤ b) (hb : b ≤ s.size) (hik : isKey (keyPart s a b) = true) (hcol : seekL colB s.data.toList a b = b) :
    Calls Tryz.prog 13 #[.string s, .int .i64 (a : Int), .int .i64 (b : Int)] w fun e w' => e = .returned (keyV (keyPart s a b) b b true) ∧ Below w.heap.size w w' := by
  have hown := fun w1 (h : Below (w.alloc (.cells #[.int .i64 0, .int .i64 0] 49)).heap.size (w.alloc (.cells #[.int .i64 0, .int .i64 0] 49)) w1) => pair_own h
  have HO := Lib.hid hown
  clear hown
  have hc := Lib.hid fun w => Tryz.places_calls s (a : Int) (b : Int) w
  rw [inB_nat hab hb] at hc
  have hcb : seekL colB s.data.toList a b ≤ b := seek_le hab
  have hca : a ≤ seekL colB s.data.toList a b := seek_ge _ _ _ _
  obtain ⟨hF1, hF2, hF3, _⟩ := is_trim (l := s.data.toList) hca (by simp; omega)
  have C2 := Lib.hid fun W => Tryz.rtrim_calls s a (seekL colB s.data.toList a b) W hca (by omega) hs
  have C3 := Lib.hid fun W => Tryz.rtextN s (trimL s.data.toList a (seekL colB s.data.toList a b)).1 (trimL s.data.toList a (seekL colB s.data.toList a b)).2 W hF2 (by omega)
  have hks : (keyPart s a b).size ≤ 2000000 := by unfold keyPart; rw [extract_size' s hF2 (by omega)]; omega
  obtain ⟨⟨F, T⟩, hFT⟩ : ∃ FT, trimL s.data.toList a (seekL colB s.data.toList a b) = FT := ⟨_, rfl⟩
  have hK : s.extract F T = keyPart s a b := by unfold keyPart; rw [hFT]
  rw [hFT] at C2 C3
  simp only at C2 C3
  rw [hK] at C3
  obtain ⟨K, hK2⟩ : ∃ K, keyPart s a b = K := ⟨_, rfl⟩
  rw [hK2] at C3 hks hik
  try rw [hK2]
  rw [isKey_eq] at hik
  have HIK := Lib.hid hik
  rw [hcol] at C2 hcb hca
  have HCC := Lib.hid hcol
  have HKL := Lib.hid (show K.data.toList.length = K.size by simp)
  clear hcol hFT hK hK2 hF1 hF2 hF3 hik
  go_enter Tryz.func13, Tryz.ntmps13
  go_wp2_with (go_at_call 35; (with_reducible refine (hc.out _).mono ?_); rintro e w1 ⟨rfl, hw1⟩; subst hw1)
  go_loop [9] (fun v => ∃ k : Nat, v = .int .i64 (k : Int) ∧ a ≤ k ∧ k ≤ b ∧ ∀ j x, a ≤ j → j < k → s.data.toList[j]? = some x → colB x = false) (fun v => b - (intOf v).toNat)
  case atStart => exact ⟨a, rfl, Nat.le_refl _, hab, fun j x h1 h2 => by omega⟩
  case round =>
    obtain ⟨k, rfl, hak, hkb, hno⟩ := hrel
    by_cases hlt : k < b
    · have hks2 : k < s.size := by omega
      by_cases h58 : (s[k]'hks2) = 58
      · have hkc : k = b := by rw [← HCC.out]; exact (seek_eq hak hkb hno (fun _ => ⟨_, list_get s k hks2, by unfold colB; rw [h58]; rfl⟩)).symm
        have d1 : (((s[k]'hks2).toNat : Int) != 58) = false := by rw [h58]; rfl
        clear hno h58
        exact absurd hkc (by omega)
      · have HN := Lib.hid (col_step hlt hak hno hks2 h58)
        have d1 : (((s[k]'hks2).toNat : Int) != 58) = true := by
          rw [bne_iff_ne]
          intro e
          exact h58 (UInt8.toNat_inj.1 (by have e' : (s[k]'hks2).toNat = 58 := by omega
                                           exact e'))
        clear hno h58
        go_wp2
        go_round
        case rel => exact ⟨k + 1, by go_num, by omega, by omega, HN.out⟩
        case measure => simp [intOf]; omega
    · have hkc : k = b := by rw [← HCC.out]; exact (seek_eq hak hkb hno (fun h => absurd h hlt)).symm
      clear hno
      have hkc2 : b = k := hkc.symm
      clear hkc
      subst hkc2
      go_wp2_with (fail)
      refine (C2.out _).mono ?_
      rintro e w2 ⟨rfl, hb2⟩
      go_wp2_with (fail)
      refine (C3.out _).mono ?_
      rintro e w3 ⟨rfl, hb3⟩
      have B3 := hb2.trans (hb3.mono hb2.size)
      clear hb2 hb3 C2 C3
      obtain ⟨r0, r1, f0, f1, hz⟩ := HO.out _ B3
      have hB : Below w.heap.size w w3 := ((Below.refl _ _).alloc (Nat.le_refl _) _).trans (B3.mono (by simp))
      clear B3
      have hsz := HIK.out
      rw [Bool.and_eq_true, Bool.and_eq_true, decide_eq_true_iff, decide_eq_true_iff] at hsz
      obtain ⟨⟨hs1, hs40⟩, hall⟩ := hsz
      have e1 := not_empty K (by omega)
      have e2 : ¬ K.toList = [] := fun h => by rw [h] at e1; cases e1
      have d40 : decide ((40 : Int) < (K.size : Int)) = false := decide_eq_false (by omega)
      have HALL := Lib.hid (fun x hx => (List.all_eq_true.1 (show K.data.toList.all (ofB keyP) = true from hall)) x hx)
      clear HIK hall hs1 hs40
      go_wp2
      clear e1 e2 d40
      go_loop [11] (fun v => ∃ m : Nat, v = .int .i64 (m : Int) ∧ m ≤ K.size) (fun v => K.size - (intOf v).toNat)
      case atStart => exact ⟨0, rfl, Nat.zero_le _⟩
      case round =>
        obtain ⟨m, rfl, hm⟩ := hrel
        by_cases hltm : m < K.size
        · have hqc : keyP (K[m]'hltm).toNat = true := HALL.out _ (List.mem_of_getElem? (list_get K m hltm))
          rw [keyP_eq, decide_eq_true_iff] at hqc
          have hparts : ((48 ≤ (K[m]'hltm).toNat ∧ (K[m]'hltm).toNat ≤ 57) ∨ (65 ≤ (K[m]'hltm).toNat ∧ (K[m]'hltm).toNat ≤ 90) ∨ (K[m]'hltm).toNat = 95) := by omega
          clear hqc
          rcases hparts with hp | hp | hp
          all_goals
            first | have d1 : decide ((((K[m]'hltm).toNat : Nat) : Int) < 65) = true := decide_eq_true (by omega) | have d1 : decide ((((K[m]'hltm).toNat : Nat) : Int) < 65) = false := decide_eq_false (by omega)
            first | have d2 : decide ((90 : Int) < (((K[m]'hltm).toNat : Nat) : Int)) = true := decide_eq_true (by omega) | have d2 : decide ((90 : Int) < (((K[m]'hltm).toNat : Nat) : Int)) = false := decide_eq_false (by omega)
            first | have d3 : decide ((((K[m]'hltm).toNat : Nat) : Int) < 48) = true := decide_eq_true (by omega) | have d3 : decide ((((K[m]'hltm).toNat : Nat) : Int) < 48) = false := decide_eq_false (by omega)
            first | have d4 : decide ((57 : Int) < (((K[m]'hltm).toNat : Nat) : Int)) = true := decide_eq_true (by omega) | have d4 : decide ((57 : Int) < (((K[m]'hltm).toNat : Nat) : Int)) = false := decide_eq_false (by omega)
            first | have d5 : ((((K[m]'hltm).toNat : Nat) : Int) != 95) = true := bne_iff_ne.2 (by omega) | have d5 : ((((K[m]'hltm).toNat : Nat) : Int) != 95) = false := bne_eq_false_iff_eq.2 (by omega)
            clear hp
            go_wp2
            go_round
            case rel => exact ⟨m + 1, by go_num, by omega⟩
            case measure => simp [intOf]; omega
        · clear HALL HKL hks
          go_wp2
          obtain ⟨V, hV⟩ : ∃ V, V = w3.alloc (.cells #[.int .i64 (b : Int), .int .i64 (b : Int)] 49) := ⟨_, rfl⟩
          rw [← hV]
          have hkV : Below w3.heap.size w3 V := by rw [hV]; exact (Below.refl _ _).alloc (Nat.le_refl _) _
          have hBV : Below w.heap.size w V := hB.trans (hkV.mono hB.size)
          have hT : WdTwo V w3.heap.size (.int .i64 (b : Int)) (.int .i64 (b : Int)) := by rw [hV]; exact WdTwo.new _ _ _ _
          have hR : WdTwo V w.heap.size (.int .i64 0) (.int .i64 0) := (show WdTwo w3 w.heap.size (.int .i64 0) (.int .i64 0) from ⟨r0, r1, f0, f1⟩).later hkV hz
          clear hV r0 r1 f0 f1 hkV
          obtain ⟨x0, x1, _, _⟩ := hT
          obtain ⟨r0, r1, f0, f1⟩ := hR
          go_region
          go_wp2
          refine bodyPost_ret (v := keyV K b b true) (by simp [results, Tryz.results13, go_sem, keyV, r0, r1]) rfl ⟨rfl, ?_⟩
          exact (hBV.drew.setCell (by simp) _).setCell (by simp) _

end Go.Proofs
/- The document's own Key of (any) this program, as a contract. Conditions: a text of at most two million bytes. -/
namespace Go.Proofs
open Go.RowKit Go.Shelf Go.Wds
set_option maxRecDepth 100000 in
set_option maxHeartbeats 4000000 in
theorem Tryz.rKey_both (s : ByteArray) (a b : Nat) (w : World) (hs : s.size ≤ 2000000) (hab : a ≤ b) (hb : b ≤ s.size) (hik : isKey (keyPart s a b) = true) (hcol : seekL colB s.data.toList a b < b) :
    Calls Tryz.prog 13 #[.string s, .int .i64 (a : Int), .int .i64 (b : Int)] w fun e w' => e = .returned (keyV (keyPart s a b) (trimL s.data.toList (seekL colB s.data.toList a b + 1) b).1 (trimL s.data.toList (seekL colB s.data.toList a b + 1) b).2 true) ∧ Below w.heap.size w w' := by
  have hown := fun w1 (h : Below (w.alloc (.cells #[.int .i64 0, .int .i64 0] 49)).heap.size (w.alloc (.cells #[.int .i64 0, .int .i64 0] 49)) w1) => pair_own h
  have HO := Lib.hid hown
  clear hown
  have hc := Lib.hid fun w => Tryz.places_calls s (a : Int) (b : Int) w
  rw [inB_nat hab hb] at hc
  have hcb : seekL colB s.data.toList a b ≤ b := seek_le hab
  have hca : a ≤ seekL colB s.data.toList a b := seek_ge _ _ _ _
  obtain ⟨hF1, hF2, hF3, _⟩ := is_trim (l := s.data.toList) hca (by simp; omega)
  have C2 := Lib.hid fun W => Tryz.rtrim_calls s a (seekL colB s.data.toList a b) W hca (by omega) hs
  have C3 := Lib.hid fun W => Tryz.rtextN s (trimL s.data.toList a (seekL colB s.data.toList a b)).1 (trimL s.data.toList a (seekL colB s.data.toList a b)).2 W hF2 (by omega)
  have hks : (keyPart s a b).size ≤ 2000000 := by unfold keyPart; rw [extract_size' s hF2 (by omega)]; omega
  have C5 := Lib.hid fun W => Tryz.rtrim_calls s (seekL colB s.data.toList a b + 1) b W hcol hb hs
  have it2 := is_trim (l := s.data.toList) (a := seekL colB s.data.toList a b + 1) (b := b) hcol (by simp; omega)
  obtain ⟨⟨F2, T2⟩, hFT2⟩ : ∃ FT, trimL s.data.toList (seekL colB s.data.toList a b + 1) b = FT := ⟨_, rfl⟩
  rw [hFT2] at C5 it2 ⊢
  simp only at C5 it2 ⊢
  have IT2 := Lib.hid (show F2 ≤ T2 ∧ T2 ≤ b ∧ (F2 = T2 → F2 = b) from ⟨it2.2.1, it2.2.2.1, it2.2.2.2.2.2.1⟩)
  obtain ⟨⟨F, T⟩, hFT⟩ : ∃ FT, trimL s.data.toList a (seekL colB s.data.toList a b) = FT := ⟨_, rfl⟩
  have hK : s.extract F T = keyPart s a b := by unfold keyPart; rw [hFT]
  rw [hFT] at C2 C3
  simp only at C2 C3
  rw [hK] at C3
  obtain ⟨K, hK2⟩ : ∃ K, keyPart s a b = K := ⟨_, rfl⟩
  rw [hK2] at C3 hks hik
  try rw [hK2]
  rw [isKey_eq] at hik
  have HIK := Lib.hid hik
  obtain ⟨c, hcc⟩ : ∃ c, seekL colB s.data.toList a b = c := ⟨_, rfl⟩
  rw [hcc] at C5 hcol
  have HC := Lib.hid hcol
  have C6 : Hid (∀ W, Calls Tryz.prog 36 #[.string s, .agg #[.int .i64 ((c : Int) + 1), .int .i64 (b : Int)]] W fun e w' => e = .returned (.agg #[.int .i64 (F2 : Nat), .int .i64 (T2 : Nat)]) ∧ Below W.heap.size W w') := C5
  clear C5 it2 hFT2 hcol
  rw [hcc] at C2 hcb hca
  have HCC := Lib.hid hcc
  have HKL := Lib.hid (show K.data.toList.length = K.size by simp)
  clear hcc hFT hK hK2 hF1 hF2 hF3 hik
  go_enter Tryz.func13, Tryz.ntmps13
  go_wp2_with (go_at_call 35; (with_reducible refine (hc.out _).mono ?_); rintro e w1 ⟨rfl, hw1⟩; subst hw1)
  go_loop [9] (fun v => ∃ k : Nat, v = .int .i64 (k : Int) ∧ a ≤ k ∧ k ≤ b ∧ ∀ j x, a ≤ j → j < k → s.data.toList[j]? = some x → colB x = false) (fun v => b - (intOf v).toNat)
  case atStart => exact ⟨a, rfl, Nat.le_refl _, hab, fun j x h1 h2 => by omega⟩
  case round =>
    obtain ⟨k, rfl, hak, hkb, hno⟩ := hrel
    by_cases hlt : k < b
    · have hks2 : k < s.size := by omega
      by_cases h58 : (s[k]'hks2) = 58
      · have hkc : k = c := by rw [← HCC.out]; exact (seek_eq hak hkb hno (fun _ => ⟨_, list_get s k hks2, by unfold colB; rw [h58]; rfl⟩)).symm
        have d1 : (((s[k]'hks2).toNat : Int) != 58) = false := by rw [h58]; rfl
        clear hno h58
        have hkc2 : c = k := hkc.symm
        clear hkc
        subst hkc2
        go_wp2_with (fail)
        refine (C2.out _).mono ?_
        rintro e w2 ⟨rfl, hb2⟩
        go_wp2_with (fail)
        refine (C3.out _).mono ?_
        rintro e w3 ⟨rfl, hb3⟩
        have B3 := hb2.trans (hb3.mono hb2.size)
        clear hb2 hb3 C2 C3 d1
        obtain ⟨r0, r1, f0, f1, hz⟩ := HO.out _ B3
        have hB : Below w.heap.size w w3 := ((Below.refl _ _).alloc (Nat.le_refl _) _).trans (B3.mono (by simp))
        clear B3
        have hsz := HIK.out
        rw [Bool.and_eq_true, Bool.and_eq_true, decide_eq_true_iff, decide_eq_true_iff] at hsz
        obtain ⟨⟨hs1, hs40⟩, hall⟩ := hsz
        have e1 := not_empty K (by omega)
        have e2 : ¬ K.toList = [] := fun h => by rw [h] at e1; cases e1
        have d40 : decide ((40 : Int) < (K.size : Int)) = false := decide_eq_false (by omega)
        have HALL := Lib.hid (fun x hx => (List.all_eq_true.1 (show K.data.toList.all (ofB keyP) = true from hall)) x hx)
        clear HIK hall hs1 hs40
        go_wp2
        clear e1 e2 d40
        go_loop [11] (fun v => ∃ m : Nat, v = .int .i64 (m : Int) ∧ m ≤ K.size) (fun v => K.size - (intOf v).toNat)
        case atStart => exact ⟨0, rfl, Nat.zero_le _⟩
        case round =>
          obtain ⟨m, rfl, hm⟩ := hrel
          by_cases hltm : m < K.size
          · have hqc : keyP (K[m]'hltm).toNat = true := HALL.out _ (List.mem_of_getElem? (list_get K m hltm))
            rw [keyP_eq, decide_eq_true_iff] at hqc
            have hparts : ((48 ≤ (K[m]'hltm).toNat ∧ (K[m]'hltm).toNat ≤ 57) ∨ (65 ≤ (K[m]'hltm).toNat ∧ (K[m]'hltm).toNat ≤ 90) ∨ (K[m]'hltm).toNat = 95) := by omega
            clear hqc
            rcases hparts with hp | hp | hp
            all_goals
              first | have d1 : decide ((((K[m]'hltm).toNat : Nat) : Int) < 65) = true := decide_eq_true (by omega) | have d1 : decide ((((K[m]'hltm).toNat : Nat) : Int) < 65) = false := decide_eq_false (by omega)
              first | have d2 : decide ((90 : Int) < (((K[m]'hltm).toNat : Nat) : Int)) = true := decide_eq_true (by omega) | have d2 : decide ((90 : Int) < (((K[m]'hltm).toNat : Nat) : Int)) = false := decide_eq_false (by omega)
              first | have d3 : decide ((((K[m]'hltm).toNat : Nat) : Int) < 48) = true := decide_eq_true (by omega) | have d3 : decide ((((K[m]'hltm).toNat : Nat) : Int) < 48) = false := decide_eq_false (by omega)
              first | have d4 : decide ((57 : Int) < (((K[m]'hltm).toNat : Nat) : Int)) = true := decide_eq_true (by omega) | have d4 : decide ((57 : Int) < (((K[m]'hltm).toNat : Nat) : Int)) = false := decide_eq_false (by omega)
              first | have d5 : ((((K[m]'hltm).toNat : Nat) : Int) != 95) = true := bne_iff_ne.2 (by omega) | have d5 : ((((K[m]'hltm).toNat : Nat) : Int) != 95) = false := bne_eq_false_iff_eq.2 (by omega)
              clear hp
              go_wp2
              go_round
              case rel => exact ⟨m + 1, by go_num, by omega⟩
              case measure => simp [intOf]; omega
          · clear HALL HKL hks
            have d1 : decide (c < b) = true := decide_eq_true HC.out
            have d2 : decide ((c : Int) < (b : Int)) = true := decide_eq_true (by have := HC.out; omega)
            go_wp2_with (fail)
            clear d1 d2
            obtain ⟨V, hV⟩ : ∃ V, V = w3.alloc (.cells #[.int .i64 (b : Int), .int .i64 (b : Int)] 49) := ⟨_, rfl⟩
            rw [← hV]
            have hkV : Below w3.heap.size w3 V := by rw [hV]; exact (Below.refl _ _).alloc (Nat.le_refl _) _
            have hBV : Below w.heap.size w V := hB.trans (hkV.mono hB.size)
            have hT : WdTwo V w3.heap.size (.int .i64 (b : Int)) (.int .i64 (b : Int)) := by rw [hV]; exact WdTwo.new _ _ _ _
            have hR : WdTwo V w.heap.size (.int .i64 0) (.int .i64 0) := (show WdTwo w3 w.heap.size (.int .i64 0) (.int .i64 0) from ⟨r0, r1, f0, f1⟩).later hkV hz
            have hVz : w3.heap.size < V.heap.size := by rw [hV]; simp
            clear hV r0 r1 f0 f1 hkV
            refine (C6.out V).mono ?_
            rintro e w4 ⟨rfl, hb4⟩
            have hT4 := hT.later hb4 hVz
            have hR4 := hR.later hb4 (by omega)
            have hB4 := hBV.trans (hb4.mono hBV.size)
            have hz4 : w3.heap.size < w4.heap.size := Nat.lt_of_lt_of_le hVz hb4.size
            have hz5 : w.heap.size < w4.heap.size := by omega
            clear hT hR hBV hVz hb4 C6
            have kA : Below w4.heap.size w4 (w4.alloc (.cells #[.int .i64 (F2 : Int), .int .i64 (T2 : Int)] 49)) := (Below.refl _ _).alloc (Nat.le_refl _) _
            have hR5 := Lib.hid (hR4.later kA hz5)
            have hT5 := Lib.hid (hT4.later kA hz4)
            have hB5 := Lib.hid (hB4.trans (kA.mono hB4.size))
            clear kA
            by_cases hlt2 : F2 < T2
            · have d3 : decide (F2 < T2) = true := decide_eq_true hlt2
              have hne : w3.heap.size ≠ w.heap.size := by omega
              have hT6 := (hT4.set0 (.int .i64 (F2 : Int))).set1 (.int .i64 (T2 : Int))
              have hR6 := (hR4.far (j := 0) hne (.int .i64 (F2 : Int))).far (j := 1) hne (.int .i64 (T2 : Int))
              have hB6 := (hB4.setCell (p := ⟨w3.heap.size, 0, none⟩) (by simp; omega) (.int .i64 (F2 : Int))).setCell (p := ⟨w3.heap.size, 1, none⟩) (by simp; omega) (.int .i64 (T2 : Int))
              have hz6 : ((w4.setCell ⟨w3.heap.size, 0, none⟩ (.int .i64 (F2 : Int))).setCell ⟨w3.heap.size, 1, none⟩ (.int .i64 (T2 : Int))).heap.size = w4.heap.size := by simp
              have hT7 := Lib.hid hT6
              have hR7 := Lib.hid hR6
              have hB7 := Lib.hid hB6
              have hz7 := Lib.hid hz6
              clear hT6 hR6 hB6 hz6
              obtain ⟨x0, x1, y0, y1⟩ := hT4
              clear hR4 hlt2
              go_wp2
              obtain ⟨W5, hW5⟩ : ∃ W5, (w4.setCell ⟨w3.heap.size, 0, none⟩ (.int .i64 (F2 : Int))).setCell ⟨w3.heap.size, 1, none⟩ (.int .i64 (T2 : Int)) = W5 := ⟨_, rfl⟩
              rw [hW5] at hT7 hR7 hB7 hz7 ⊢
              have hkA : Below W5.heap.size W5 (W5.alloc (.cells #[.int .i64 (F2 : Int), .int .i64 (T2 : Int)] 49)) := (Below.refl _ _).alloc (Nat.le_refl _) _
              have hT6 := hT7.out.later hkA (by have := hz7.out; omega)
              have hR6 := hR7.out.later hkA (by have := hz7.out; omega)
              have hB6 := hB7.out.trans (hkA.mono hB7.out.size)
              obtain ⟨V2, hV2⟩ : ∃ V2, W5.alloc (.cells #[.int .i64 (F2 : Int), .int .i64 (T2 : Int)] 49) = V2 := ⟨_, rfl⟩
              rw [hV2] at hT6 hR6 hB6 ⊢
              clear hW5 hkA hT7 hR7 hB7 hz7
              clear hV2 x0 x1 y0 y1 hR5 hT5 hB5 hz4 hz5 hB4 hne
              obtain ⟨x0, x1, _, _⟩ := hT6
              obtain ⟨r0, r1, f0, f1⟩ := hR6
              go_region
              go_wp2
              refine bodyPost_ret (v := keyV K F2 T2 true) (by simp [results, Tryz.results13, go_sem, keyV, r0, r1]) rfl ⟨rfl, ?_⟩
              exact (hB6.drew.setCell (by simp) _).setCell (by simp) _
            · have d3 : decide (F2 < T2) = false := decide_eq_false hlt2
              obtain ⟨e3, e4⟩ : F2 = b ∧ T2 = b := by
                obtain ⟨i1, i2, i3⟩ := IT2.out
                have := i3 (by omega)
                omega
              have HE := Lib.hid (show keyV K F2 T2 true = keyV K b b true by rw [e3, e4])
              obtain ⟨x0, x1, y0, y1⟩ := hT4
              clear hR4 hlt2 e3 e4
              go_wp2
              obtain ⟨V2, hV2⟩ : ∃ V2, V2 = w4.alloc (.cells #[.int .i64 (F2 : Int), .int .i64 (T2 : Int)] 49) := ⟨_, rfl⟩
              rw [← hV2]
              rw [← hV2] at hT5 hR5 hB5
              have hT6 := hT5.out
              have hR6 := hR5.out
              have hB6 := hB5.out
              clear hV2 x0 x1 y0 y1 hR5 hT5 hB5 hz4 hz5 hB4
              obtain ⟨x0, x1, _, _⟩ := hT6
              obtain ⟨r0, r1, f0, f1⟩ := hR6
              go_region
              go_wp2
              refine bodyPost_ret (v := keyV K b b true) (by simp [results, Tryz.results13, go_sem, keyV, r0, r1]) rfl ⟨by rw [HE.out], ?_⟩
              exact (hB6.drew.setCell (by simp) _).setCell (by simp) _
      · have HN := Lib.hid (col_step hlt hak hno hks2 h58)
        have d1 : (((s[k]'hks2).toNat : Int) != 58) = true := by
          rw [bne_iff_ne]
          intro e
          exact h58 (UInt8.toNat_inj.1 (by have e' : (s[k]'hks2).toNat = 58 := by omega
                                           exact e'))
        clear hno h58
        go_wp2
        go_round
        case rel => exact ⟨k + 1, by go_num, by omega, by omega, HN.out⟩
        case measure => simp [intOf]; omega
    · have hkc : k = c := by rw [← HCC.out]; exact (seek_eq hak hkb hno (fun h => absurd h hlt)).symm
      clear hno
      exact absurd HC.out (by omega)

theorem Tryz.rKey_calls (s : ByteArray) (a b : Int) (k : ByteArray) (i j : Nat) (t : Bool) (w : World) (hs : s.size ≤ 2000000) (hk : KeyIs s a b k i j t) :
    Calls Tryz.prog 13 #[.string s, .int .i64 a, .int .i64 b] w fun e w' => e = .returned (keyV k i j t) ∧ Below w.heap.size w w' := by
  cases hk with
  | out _ _ h => exact Tryz.rKey_out s a b w h
  | none x y h1 h2 h3 => exact Tryz.rKey_none s x y w hs h1 h2 h3
  | alone x y h1 h2 h3 h4 => exact Tryz.rKey_alone s _ _ w hs h1 h2 h3 h4
  | both x y h1 h2 h3 h4 => exact Tryz.rKey_both s x y w hs h1 h2 h3 h4
#print axioms Tryz.rKey_calls
end Go.Proofs
/- The document's digits. Conditions: a text that a string can be; at most 12 digits. -/
namespace Go.Fx
/-- The document's digits: the number, and whether they are one to so many. -/
def digR (l : List UInt8) (most : Nat) : Int × Bool := if 1 ≤ l.length ∧ l.length ≤ most ∧ l.all dg = true then (valF 0 l, true) else (0, false)
theorem dg_not {c : UInt8} (h : dg c = false) : (c.toNat : Int) < 48 ∨ 57 < (c.toNat : Int) := by
  simp [dg, digB] at h; omega
end Go.Fx
namespace Go.Proofs
open Go.RowKit Go.Fx
attribute [local go_sem] Oper.semAt_some

theorem ret_dig {a : Int} {b : Bool} {x : Int × Bool} (h : x = (a, b)) : Ending.returned (.tuple #[.int .i64 a, .bool b]) = .returned (.tuple #[.int .i64 x.1, .bool x.2]) := by rw [h]
theorem all_of_take {l : List UInt8} {j : Nat} (h : ∀ c ∈ l.take j, dg c = true) (hj : l.length ≤ j) : l.all dg = true := by
  rw [List.take_of_length_le hj] at h
  exact List.all_eq_true.2 h
theorem fxall_not {l : List UInt8} {j : Nat} {c : UInt8} (h : l[j]? = some c) (hd : dg c = false) : ¬ l.all dg = true := fun e => by
  rw [List.all_eq_true] at e
  have := e c (List.mem_of_getElem? h)
  rw [hd] at this; cases this

set_option maxHeartbeats 400000 in
theorem Tryz.rdigits_len (s : ByteArray) (most : Nat) (hs : s.size ≤ 9223372036854775807) (hl : ¬ (1 ≤ s.size ∧ s.size ≤ most)) (w : World) :
    Calls Tryz.prog 74 #[.string s, .int .i64 (most : Int)] w fun e w' => e = .returned (.tuple #[.int .i64 (digR s.data.toList most).1, .bool (digR s.data.toList most).2]) ∧ w = w' := by
  have HR : Hid (digR s.data.toList most = (0, false)) := by unfold Hid digR; rw [if_neg (by rw [Array.length_toList]; exact fun h => hl ⟨h.1, h.2.1⟩)]
  by_cases h1 : s.size < 1
  · clear hl
    go_enter Tryz.func74, Tryz.ntmps74
    go_wp2
    go_ret2
    exact ⟨ret_dig HR.out, rfl⟩
  · have h2 : most < s.size := by omega
    clear hl
    go_enter Tryz.func74, Tryz.ntmps74
    go_wp2
    go_ret2
    exact ⟨ret_dig HR.out, rfl⟩
set_option maxHeartbeats 400000 in
theorem Tryz.rdigits_in (s : ByteArray) (most : Nat) (hm : most ≤ 12) (h1 : 1 ≤ s.size) (h2 : s.size ≤ most) (w : World) :
    Calls Tryz.prog 74 #[.string s, .int .i64 (most : Int)] w fun e w' => e = .returned (.tuple #[.int .i64 (digR s.data.toList most).1, .bool (digR s.data.toList most).2]) ∧ w = w' := by
  have hb1 : decide ((s.size : Int) < 1) = false := decide_eq_false (by omega)
  have hb2 : decide (s.size < 1) = false := decide_eq_false (by omega)
  have hb3 : decide (most < s.size) = false := decide_eq_false (by omega)
  go_enter Tryz.func74, Tryz.ntmps74
  go_wp2
  go_outline
  go_loop [4, 5, 6, 7] (fun _ _ v i => ∃ (j : Nat) (n : Int), j ≤ s.size ∧ i = .int .i64 (j : Int) ∧ v = .int .i64 n ∧ Hid (n = valF 0 (s.data.toList.take j) ∧ ∀ c ∈ s.data.toList.take j, dg c = true)) (fun _ _ _ i => s.size - (intOf i).toNat)
  case atStart => exact ⟨0, 0, Nat.zero_le _, rfl, rfl, ⟨by simp [valF], by simp⟩⟩
  case round =>
    obtain ⟨j, n, hj, rfl, rfl, HN⟩ := hrel
    have hnb := valF_bd (a := 0) 0 (by omega) (by decide) (s.data.toList.take j) HN.out.2
    rw [← HN.out.1] at hnb
    have hnq : n ≤ 999999999999 := by
      have e1 : (s.data.toList.take j).length ≤ j := List.length_take_le _ _
      have e2 : 10 ^ (0 + (s.data.toList.take j).length) ≤ 10 ^ 12 := Nat.pow_le_pow_right (by omega) (by omega)
      omega
    have hn0 := hnb.1
    clear hnb
    by_cases hlt : j < s.size
    · have hget : s.data.toList[j]? = some s[j] := by
        have h' : j < s.data.toList.length := by simpa using hlt
        rw [List.getElem?_eq_getElem h']; rfl
      by_cases hd : dg s[j] = true
      · have hd2 := dg_bd hd
        have HX : Hid (10 * n + ((s[j].toNat : Int) - 48) = valF 0 (s.data.toList.take (j + 1)) ∧ ∀ c ∈ s.data.toList.take (j + 1), dg c = true) := by
          have HS := take_snoc hget
          refine ⟨by rw [HS, valF_snoc, ← HN.out.1], ?_⟩
          rw [HS]
          intro c hc'
          rcases List.mem_append.1 hc' with h | h
          · exact HN.out.2 c h
          · rw [List.mem_singleton.1 h]; exact hd
        clear hd hget
        go_wp2
        go_round
        case rel => exact ⟨j + 1, 10 * n + ((s[j].toNat : Int) - 48), by omega, by go_num, by go_num, HX⟩
        case measure => simp [intOf]; omega
      · simp only [Bool.not_eq_true] at hd
        have hd2 := dg_not hd
        have HR : Hid (digR s.data.toList most = (0, false)) := by unfold Hid digR; rw [if_neg (fun h => fxall_not hget hd h.2.2)]
        clear hd hget
        rcases hd2 with hd2 | hd2
        · go_wp2
          go_ret2
          exact ⟨ret_dig HR.out, rfl⟩
        · go_wp2
          go_ret2
          exact ⟨ret_dig HR.out, rfl⟩
    · have hge : s.size ≤ j := by omega
      have HR : Hid (digR s.data.toList most = (n, true)) := by
        unfold Hid digR
        have hl : s.data.toList.length ≤ j := by rw [Array.length_toList]; exact hge
        rw [if_pos ⟨by rw [Array.length_toList]; exact h1, by rw [Array.length_toList]; exact h2, all_of_take HN.out.2 hl⟩, HN.out.1, List.take_of_length_le hl]
      go_wp2
      go_ret2
      exact ⟨ret_dig HR.out, rfl⟩
theorem Tryz.rdigits_any (s : ByteArray) (most : Nat) (hm : most ≤ 12) (hs : s.size ≤ 9223372036854775807) (w : World) :
    Calls Tryz.prog 74 #[.string s, .int .i64 (most : Int)] w fun e w' => e = .returned (.tuple #[.int .i64 (digR s.data.toList most).1, .bool (digR s.data.toList most).2]) ∧ w = w' := by
  by_cases h : 1 ≤ s.size ∧ s.size ≤ most
  · exact Tryz.rdigits_in s most hm h.1 h.2 w
  · exact Tryz.rdigits_len s most hs h w
#print axioms Tryz.rdigits_any
end Go.Proofs
/- The document's Int. Conditions: a text that a string can be. -/
namespace Go.Fx
/-- The document's Int of a text without its sign, with sign g. -/
def intT (g : Int) (d : Int × Bool) : Int × Int := if d.2 = true then (if 100000000 < d.1 then (0, 2) else (g * d.1, 0)) else (0, 20)
def intR (l : List UInt8) : Int × Int := intT (sgn l) (digR (tailIf 45 l) 12)
theorem digR_bd (l : List UInt8) {k : Nat} : 0 ≤ (digR l k).1 ∧ (digR l k).1 < ((10 ^ k : Nat) : Int) := by
  unfold digR
  split
  · rename_i h
    have := valF_bd (a := 0) 0 (by omega) (by decide) l (List.all_eq_true.1 h.2.2)
    have e : 10 ^ (0 + l.length) ≤ 10 ^ k := Nat.pow_le_pow_right (by omega) (by omega)
    simp only
    omega
  · have : 0 < 10 ^ k := Nat.pow_pos (by omega)
    simp only
    omega
end Go.Fx
namespace Go.Proofs
open Go.RowKit Go.Fx
attribute [local go_sem] Oper.semAt_some

theorem head_some (s : ByteArray) (h0 : 0 < s.size) : ∃ r, s.data.toList = s[0] :: r ∧ (s.extract 1 s.size).data.toList = r := by
  have hl : 0 < s.data.toList.length := by rw [Array.length_toList]; exact h0
  refine ⟨s.data.toList.drop 1, ?_, ?_⟩
  · have := List.drop_eq_getElem_cons hl
    rw [List.drop_zero] at this
    exact this
  · rw [Lib.extract_data]
    simp [List.take_of_length_le]
theorem head_minus (s : ByteArray) (h0 : 0 < s.size) (hm : s[0] = 45) : sgn s.data.toList = -1 ∧ tailIf 45 s.data.toList = (s.extract 1 s.size).data.toList := by
  obtain ⟨r, h1, h2⟩ := head_some s h0
  rw [h1, h2, hm]
  exact ⟨rfl, rfl⟩
theorem head_other (s : ByteArray) (h0 : 0 < s.size) (hm : s[0] ≠ 45) : sgn s.data.toList = 1 ∧ tailIf 45 s.data.toList = s.data.toList := by
  obtain ⟨r, h1, h2⟩ := head_some s h0
  have : headB 45 s.data.toList = false := by rw [h1]; simp [headB, hm]
  unfold sgn tailIf
  rw [this]
  exact ⟨rfl, rfl⟩
theorem fxnot_empty (s : ByteArray) (h0 : 0 < s.size) : s.toList.isEmpty = false := by
  rw [Lib.toList_data]
  cases h : s.data.toList with
  | nil => have : s.data.toList.length = s.size := Array.length_toList; rw [h] at this; simp at this; omega
  | cons a r => rfl
/-- What the document's digits tell of a text. -/
def Dgs (s : ByteArray) (k : Nat) (n : Int) (b : Bool) : Prop := ∀ W, Calls Tryz.prog 74 #[.string s, .int .i64 (k : Int)] W fun e w' => e = .returned (.tuple #[.int .i64 n, .bool b]) ∧ W = w'
theorem dgs_of (s : ByteArray) (k : Nat) (hk : k ≤ 12) (hs : s.size ≤ 9223372036854775807) {n : Int} {b : Bool} (h : digR s.data.toList k = (n, b)) : Dgs s k n b := fun W => by
  have := Tryz.rdigits_any s k hk hs W
  rwa [h] at this

set_option maxHeartbeats 400000 in
theorem Tryz.rInt_minus (s : ByteArray) (h0 : 0 < s.size) (hm : s[0] = 45) (n : Int) (b : Bool) (hn0 : 0 ≤ n) (hn1 : n ≤ 1000000000000) (hd : Dgs (s.extract 1 s.size) 12 n b) (w : World) :
    Calls Tryz.prog 58 #[.string s] w fun e w' => e = .returned (.tuple #[.int .i64 (intT (-1) (n, b)).1, .int .i64 (intT (-1) (n, b)).2]) ∧ w = w' := by
  have h1 := fxnot_empty s h0
  have h2 : ((s[0].toNat : Int) == 45) = true := by rw [hm]; rfl
  have HD := Lib.hid hd
  clear hm hd
  cases b with
  | false =>
    have HT : Hid (intT (-1) (n, false) = (0, 20)) := rfl
    go_enter Tryz.func58, Tryz.ntmps58
    go_wp2_with (go_at_call 74; refine (HD.out _).mono ?_; rintro e w' ⟨rfl, rfl⟩)
    go_ret2
    exact ⟨ret_two HT.out, rfl⟩
  | true =>
    by_cases hg : 100000000 < n
    · have HT : Hid (intT (-1) (n, true) = (0, 2)) := by unfold Hid intT; simp [hg]
      go_enter Tryz.func58, Tryz.ntmps58
      go_wp2_with (go_at_call 74; refine (HD.out _).mono ?_; rintro e w' ⟨rfl, rfl⟩)
      go_ret2
      exact ⟨ret_two HT.out, rfl⟩
    · have HT : Hid (intT (-1) (n, true) = (-n, 0)) := by unfold Hid intT; simp [hg]
      go_enter Tryz.func58, Tryz.ntmps58
      go_wp2_with (go_at_call 74; refine (HD.out _).mono ?_; rintro e w' ⟨rfl, rfl⟩)
      go_ret2
      exact ⟨ret_two HT.out, rfl⟩

set_option maxHeartbeats 400000 in
theorem Tryz.rInt_other (s : ByteArray) (h0 : 0 < s.size) (hm : s[0] ≠ 45) (n : Int) (b : Bool) (hn0 : 0 ≤ n) (hn1 : n ≤ 1000000000000) (hd : Dgs s 12 n b) (w : World) :
    Calls Tryz.prog 58 #[.string s] w fun e w' => e = .returned (.tuple #[.int .i64 (intT 1 (n, b)).1, .int .i64 (intT 1 (n, b)).2]) ∧ w = w' := by
  have h1 := fxnot_empty s h0
  have h2 : ((s[0].toNat : Int) == 45) = false := by
    apply beq_eq_false_iff_ne.2
    intro e
    exact hm (UInt8.toNat_inj.1 (by show s[0].toNat = 45; omega))
  have HD := Lib.hid hd
  clear hm hd
  cases b with
  | false =>
    have HT : Hid (intT 1 (n, false) = (0, 20)) := rfl
    go_enter Tryz.func58, Tryz.ntmps58
    go_wp2_with (go_at_call 74; refine (HD.out _).mono ?_; rintro e w' ⟨rfl, rfl⟩)
    go_ret2
    exact ⟨ret_two HT.out, rfl⟩
  | true =>
    by_cases hg : 100000000 < n
    · have HT : Hid (intT 1 (n, true) = (0, 2)) := by unfold Hid intT; simp [hg]
      go_enter Tryz.func58, Tryz.ntmps58
      go_wp2_with (go_at_call 74; refine (HD.out _).mono ?_; rintro e w' ⟨rfl, rfl⟩)
      go_ret2
      exact ⟨ret_two HT.out, rfl⟩
    · have HT : Hid (intT 1 (n, true) = (n, 0)) := by unfold Hid intT; simp [hg]
      go_enter Tryz.func58, Tryz.ntmps58
      go_wp2_with (go_at_call 74; refine (HD.out _).mono ?_; rintro e w' ⟨rfl, rfl⟩)
      go_ret2
      exact ⟨ret_two HT.out, rfl⟩

theorem Tryz.rInt_empty (w : World) :
    Calls Tryz.prog 58 #[.string ⟨#[]⟩] w fun e w' => e = .returned (.tuple #[.int .i64 0, .int .i64 20]) ∧ w = w' := by
  have HD : Hid (Dgs ⟨#[]⟩ 12 0 false) := dgs_of ⟨#[]⟩ 12 (by omega) (by decide) rfl
  go_enter Tryz.func58, Tryz.ntmps58
  go_wp2_with (go_at_call 74; refine (HD.out _).mono ?_; rintro e w' ⟨rfl, rfl⟩)
  go_ret2
  exact ⟨rfl, rfl⟩
theorem Tryz.rInt_any (s : ByteArray) (hs : s.size ≤ 9223372036854775807) (w : World) :
    Calls Tryz.prog 58 #[.string s] w fun e w' => e = .returned (.tuple #[.int .i64 (intR s.data.toList).1, .int .i64 (intR s.data.toList).2]) ∧ w = w' := by
  by_cases h0 : 0 < s.size
  · unfold intR
    by_cases hm : s[0] = 45
    · obtain ⟨e1, e2⟩ := head_minus s h0 hm
      rw [e1, e2]
      have hb := digR_bd (s.extract 1 s.size).data.toList (k := 12)
      have hsz : (s.extract 1 s.size).size ≤ 9223372036854775807 := by rw [ByteArray.size_extract]; omega
      exact Tryz.rInt_minus s h0 hm _ _ hb.1 (by have := hb.2; simp only [Nat.reducePow] at this; omega) (dgs_of _ 12 (by omega) hsz rfl) w
    · obtain ⟨e1, e2⟩ := head_other s h0 hm
      rw [e1, e2]
      have hb := digR_bd s.data.toList (k := 12)
      exact Tryz.rInt_other s h0 hm _ _ hb.1 (by have := hb.2; simp only [Nat.reducePow] at this; omega) (dgs_of _ 12 (by omega) hs rfl) w
  · have hz : s = ⟨#[]⟩ := by
      apply ByteArray.ext
      have h1 : s.data.size = 0 := by show s.size = 0; omega
      exact Array.eq_empty_of_size_eq_zero h1
    subst hz
    exact Tryz.rInt_empty w
#print axioms Tryz.rInt_any
end Go.Proofs
/- The document's own answer for metric.Of: the same as the program's. Conditions: none. -/
namespace Go.Proofs
open Go.RowKit Go.Shelf Go.Root Go.Metric Go.TextTab
attribute [local go_sem] Oper.semAt_some

set_option maxRecDepth 100000 in
set_option maxHeartbeats 1000000 in
theorem Tryz.ROf_calls (s : ByteArray) (w : World) :
    Calls Tryz.prog 39 #[.string s] w fun e w' => e = .returned (.tuple #[.int .i64 (ofR s).1, .bool (ofR s).2]) ∧ w' = w := by
  have R0 : ∀ w : World, Calls Tryz.prog 59 #[.int .i64 0] w fun e w' => e = .returned (.string ⟨#[69, 88, 80, 76, 73, 67, 73, 84]⟩) ∧ w' = w := fun w => Tryz.RKeyword_calls 0 w
  have R1 : ∀ w : World, Calls Tryz.prog 59 #[.int .i64 1] w fun e w' => e = .returned (.string ⟨#[69, 85, 67, 95, 50, 68]⟩) ∧ w' = w := fun w => Tryz.RKeyword_calls 1 w
  have R2 : ∀ w : World, Calls Tryz.prog 59 #[.int .i64 2] w fun e w' => e = .returned (.string ⟨#[67, 69, 73, 76, 95, 50, 68]⟩) ∧ w' = w := fun w => Tryz.RKeyword_calls 2 w
  have R3 : ∀ w : World, Calls Tryz.prog 59 #[.int .i64 3] w fun e w' => e = .returned (.string ⟨#[77, 65, 78, 95, 50, 68]⟩) ∧ w' = w := fun w => Tryz.RKeyword_calls 3 w
  have R4 : ∀ w : World, Calls Tryz.prog 59 #[.int .i64 4] w fun e w' => e = .returned (.string ⟨#[77, 65, 88, 95, 50, 68]⟩) ∧ w' = w := fun w => Tryz.RKeyword_calls 4 w
  have R5 : ∀ w : World, Calls Tryz.prog 59 #[.int .i64 5] w fun e w' => e = .returned (.string ⟨#[65, 84, 84]⟩) ∧ w' = w := fun w => Tryz.RKeyword_calls 5 w
  go_enter Tryz.func39, Tryz.ntmps39
  go_wp2
  go_loop [4] (fun i => ∃ j : Nat, j ≤ 6 ∧ i = .int .i64 (j : Int) ∧ Hid (ofR s = ofFrom s j (6 - j))) (fun i => 6 - (intOf i).toNat)
  case atStart => exact ⟨0, Nat.zero_le _, rfl, rfl⟩
  case round =>
    obtain ⟨j, hj, rfl, hH⟩ := hrel
    by_cases hlt : j < 6
    · obtain ⟨m, hm⟩ : ∃ m, 6 - j = m + 1 := ⟨5 - j, by omega⟩
      have hH2 := hH.out
      rw [hm] at hH2
      simp only [ofFrom] at hH2
      clear hH
      have hm2 : 6 - (j + 1) = m := by omega
      rcases (show j = 0 ∨ j = 1 ∨ j = 2 ∨ j = 3 ∨ j = 4 ∨ j = 5 by omega) with rfl | rfl | rfl | rfl | rfl | rfl
      all_goals
        simp only [kwAt, kw0, kw1, kw2, kw3, kw4, kw5] at hH2
        split at hH2
        · rename_i he
          subst he
          have HH := Lib.hid hH2
          clear hH2 hm hm2
          go_wp2_with (go_at_call 59; first
            | ((with_reducible refine (R0 _).mono ?_); rintro e w1 ⟨rfl, hw1⟩; obtain rfl : w = w1 := hw1.symm)
            | ((with_reducible refine (R1 _).mono ?_); rintro e w1 ⟨rfl, hw1⟩; obtain rfl : w = w1 := hw1.symm)
            | ((with_reducible refine (R2 _).mono ?_); rintro e w1 ⟨rfl, hw1⟩; obtain rfl : w = w1 := hw1.symm)
            | ((with_reducible refine (R3 _).mono ?_); rintro e w1 ⟨rfl, hw1⟩; obtain rfl : w = w1 := hw1.symm)
            | ((with_reducible refine (R4 _).mono ?_); rintro e w1 ⟨rfl, hw1⟩; obtain rfl : w = w1 := hw1.symm)
            | ((with_reducible refine (R5 _).mono ?_); rintro e w1 ⟨rfl, hw1⟩; obtain rfl : w = w1 := hw1.symm))
          go_ret2
          exact ⟨ret_of HH.out, rfl⟩
        · rename_i he
          have hne := text_beq he
          have HH := Lib.hid hH2
          have Hm := Lib.hid hm2
          clear hH2 hm hm2
          go_wp2_with (go_at_call 59; first
            | ((with_reducible refine (R0 _).mono ?_); rintro e w1 ⟨rfl, hw1⟩; obtain rfl : w = w1 := hw1.symm)
            | ((with_reducible refine (R1 _).mono ?_); rintro e w1 ⟨rfl, hw1⟩; obtain rfl : w = w1 := hw1.symm)
            | ((with_reducible refine (R2 _).mono ?_); rintro e w1 ⟨rfl, hw1⟩; obtain rfl : w = w1 := hw1.symm)
            | ((with_reducible refine (R3 _).mono ?_); rintro e w1 ⟨rfl, hw1⟩; obtain rfl : w = w1 := hw1.symm)
            | ((with_reducible refine (R4 _).mono ?_); rintro e w1 ⟨rfl, hw1⟩; obtain rfl : w = w1 := hw1.symm)
            | ((with_reducible refine (R5 _).mono ?_); rintro e w1 ⟨rfl, hw1⟩; obtain rfl : w = w1 := hw1.symm))
          go_round
          case rel =>
            have e := HH.out
            rw [← Hm.out] at e
            first | exact ⟨1, by omega, by go_num, Lib.hid e⟩ | exact ⟨2, by omega, by go_num, Lib.hid e⟩ | exact ⟨3, by omega, by go_num, Lib.hid e⟩ | exact ⟨4, by omega, by go_num, Lib.hid e⟩ | exact ⟨5, by omega, by go_num, Lib.hid e⟩ | exact ⟨6, by omega, by go_num, Lib.hid e⟩
          case measure => simp [intOf]
    · obtain rfl : j = 6 := by omega
      go_wp2
      go_ret2
      exact ⟨ret_of hH.out, rfl⟩
end Go.Proofs
/- Plain facts on the parts of a text that line feeds part, and on its lines; no program. -/
namespace Go.Cur

theorem get_of (s : ByteArray) (k : Nat) (h : k < s.size) : s.get! k = s[k]'h := by
  have := get_at s k h; simpa using this
theorem list_get (s : ByteArray) (k : Nat) (h : k < s.size) : s.data.toList[k]? = some (s[k]'h) := by
  have h' : k < s.data.toList.length := by simpa using h
  rw [List.getElem?_eq_getElem h']; rfl

/-- A line feed is met as one. -/
theorem decode_feed (s : ByteArray) (pos : Nat) (h : pos < s.size) (hb : s[pos]'h = 10) : Utf8.decode s pos = (10, 1) := by
  rw [decode_ascii s pos h (by rw [hb]; decide), hb]; rfl

theorem cont_ne (b : UInt8) (h : (b.toNat / 64 == 2) = true) : b ≠ 10 := by
  intro e; subst e; revert h; decide

/-- Any other sign is none, and has none in it. -/
theorem decode_sign (s : ByteArray) (pos : Nat) (h : pos < s.size) (hb : s[pos]'h ≠ 10) :
    (Utf8.decode s pos).1 ≠ 10 ∧ 1 ≤ (Utf8.decode s pos).2 ∧ pos + (Utf8.decode s pos).2 ≤ s.size ∧ ∀ j, pos ≤ j → j < pos + (Utf8.decode s pos).2 → s.get! j ≠ 10 := by
  have hb' : s.get! (pos + 0) ≠ 10 := by rw [get_at s pos h]; exact hb
  by_cases ha : (s[pos]'h).toNat < 128
  · rw [decode_ascii s pos h ha]
    refine ⟨fun e => hb ?_, Nat.le_refl _, h, fun j h1 h2 => ?_⟩
    · have e' : (s[pos]'h).toNat = (10 : UInt8).toNat := e
      exact UInt8.toNat_inj.1 e'
    · have : j = pos := by simp at h2; omega
      subst this; simpa using hb'
  · have hh := decode_high s pos h (by omega)
    refine ⟨by omega, hh.2, ?_⟩
    have hn : ¬ (s.get! (pos + 0)).toNat < 128 := by rw [get_at s pos h]; exact ha
    clear hh ha
    simp only [Utf8.decode]
    rw [if_neg (by simpa using hn)]
    have one : pos + 1 ≤ s.size ∧ ∀ j, pos ≤ j → j < pos + 1 → s.get! j ≠ 10 := ⟨h, fun j h1 h2 => by
      have : j = pos := by omega
      subst this; simpa using hb'⟩
    have two : ∀ m, (m ≤ 3) → (∀ k, 1 ≤ k → k ≤ m → (decide (pos + k < s.size) && (s.get! (pos + k)).toNat / 64 == 2) = true) → pos + (m + 1) ≤ s.size ∧ ∀ j, pos ≤ j → j < pos + (m + 1) → s.get! j ≠ 10 := by
      intro m hm hk
      refine ⟨?_, fun j h1 h2 => ?_⟩
      · rcases Nat.eq_zero_or_pos m with rfl | hp
        · exact h
        · have := hk m hp (Nat.le_refl _)
          simp at this; omega
      · by_cases e : j = pos
        · subst e; simpa using hb'
        · have := hk (j - pos) (by omega) (by omega)
          rw [Bool.and_eq_true] at this
          have := cont_ne _ this.2
          rwa [show pos + (j - pos) = j from by omega] at this
    split
    · rename_i hc
      simp only [Bool.and_eq_true] at hc
      split
      · refine two 1 (by omega) fun k h1 h2 => ?_
        obtain rfl : k = 1 := by omega
        simpa using hc.2
      · exact one
    · split
      · rename_i hc
        simp only [Bool.and_eq_true] at hc
        split
        · refine two 2 (by omega) fun k h1 h2 => ?_
          rcases (by omega : k = 1 ∨ k = 2) with rfl | rfl
          · simpa using hc.1.2
          · simpa using hc.2
        · exact one
      · split
        · rename_i hc
          simp only [Bool.and_eq_true] at hc
          split
          · refine two 3 (by omega) fun k h1 h2 => ?_
            rcases (by omega : k = 1 ∨ k = 2 ∨ k = 3) with rfl | rfl | rfl
            · simpa using hc.1.1.2
            · simpa using hc.1.2
            · simpa using hc.2
          · exact one
        · exact one

/-- The parts of the rest l of a text, base bytes being ahead of it, the last part having begun at a. -/
def spansFrom : List UInt8 → Nat → Nat → List (Nat × Nat)
  | [], base, a => [(a, base)]
  | c :: r, base, a => if c = 10 then (a, base) :: spansFrom r (base + 1) (base + 1) else spansFrom r (base + 1) a
def spans (l : List UInt8) : List (Nat × Nat) := spansFrom l 0 0

theorem spans_feed (l : List UInt8) (p a : Nat) (h : l[p]? = some 10) : spansFrom (l.drop p) p a = (a, p) :: spansFrom (l.drop (p + 1)) (p + 1) (p + 1) := by
  obtain ⟨hp, he⟩ := List.getElem?_eq_some_iff.1 h
  rw [List.drop_eq_getElem_cons hp, he]; rfl
theorem spans_sign (l : List UInt8) (a : Nat) (w : Nat) : ∀ (p : Nat), p + w ≤ l.length → (∀ j, p ≤ j → j < p + w → l[j]? ≠ some 10) → spansFrom (l.drop p) p a = spansFrom (l.drop (p + w)) (p + w) a := by
  induction w with
  | zero => intro p _ _; rfl
  | succ w ih =>
    intro p hp hj
    have hlt : p < l.length := by omega
    have h1 := hj p (Nat.le_refl _) (by omega)
    rw [List.getElem?_eq_getElem hlt] at h1
    rw [List.drop_eq_getElem_cons hlt, spansFrom, if_neg (fun e => h1 (by rw [e]))]
    rw [ih (p + 1) (by omega) (fun j h2 h3 => hj j (by omega) (by omega)), show p + 1 + w = p + (w + 1) from by omega]
theorem spans_end (l : List UInt8) (a : Nat) : spansFrom (l.drop l.length) l.length a = [(a, l.length)] := by simp [spansFrom]

theorem spans_mem : ∀ {l : List UInt8} {base a : Nat}, a ≤ base → ∀ p ∈ spansFrom l base a, a ≤ p.1 ∧ p.1 ≤ p.2 ∧ p.2 ≤ base + l.length
  | [], base, a, h, p, hp => by
    have : p = (a, base) := by simpa [spansFrom] using hp
    subst this; exact ⟨Nat.le_refl _, h, by simp⟩
  | c :: r, base, a, h, p, hp => by
    unfold spansFrom at hp
    split at hp
    · rcases List.mem_cons.1 hp with rfl | hp
      · exact ⟨Nat.le_refl _, h, by simp⟩
      · have := spans_mem (Nat.le_refl _) p hp
        simp only [List.length_cons]; omega
    · have := spans_mem (by omega) p hp
      simp only [List.length_cons]; omega
theorem spans_len : ∀ (l : List UInt8) (base a : Nat), (spansFrom l base a).length ≤ l.length + 1
  | [], _, _ => by simp [spansFrom]
  | c :: r, base, a => by
    unfold spansFrom
    split
    · have := spans_len r (base + 1) (base + 1); simp only [List.length_cons]; omega
    · have := spans_len r (base + 1) a; simp only [List.length_cons]; omega
theorem spans_get {l : List UInt8} {k a b : Nat} (h : (spans l)[k]? = some (a, b)) : a ≤ b ∧ b ≤ l.length ∧ k ≤ l.length := by
  obtain ⟨hk, he⟩ := List.getElem?_eq_some_iff.1 h
  have h1 := spans_mem (l := l) (base := 0) (a := 0) (Nat.le_refl _) (a, b) (by rw [← he]; exact List.getElem_mem _)
  have h2 := spans_len l 0 0
  simp only [spans] at hk
  refine ⟨h1.2.1, by simpa using h1.2.2, by omega⟩

/-- What is drawn off a list, one at a time. -/
theorem drop_step {α : Type} {l : List α} {k : Nat} {x : α} {r : List α} (h : l.drop k = x :: r) : l[k]? = some x ∧ l.drop (k + 1) = r := by
  have h1 : (l.drop k)[0]? = some x := by rw [h]; rfl
  have h2 : (l.drop k).drop 1 = r := by rw [h]; rfl
  rw [List.getElem?_drop] at h1
  rw [List.drop_drop] at h2
  exact ⟨by simpa using h1, h2⟩
theorem drop_one {α : Type} {l : List α} {k : Nat} {x : α} (h : l.drop k = [x]) : l.length = k + 1 := by
  have h1 : (l.drop k).length = 1 := by rw [h]; rfl
  rw [List.length_drop] at h1; omega
theorem takeWhile_step {α : Type} {p : α → Bool} {x : α} : ∀ {l : List α} {k : Nat}, k ≤ (l.takeWhile p).length → l[k]? = some x → (p x = true → (l.takeWhile p)[k]? = some x ∧ k + 1 ≤ (l.takeWhile p).length) ∧ (p x = false → (l.takeWhile p).length = k)
  | [], k, _, h => by simp at h
  | y :: l, 0, _, h => by
    have e : y = x := by simpa using h
    subst e
    refine ⟨fun hp => ?_, fun hp => ?_⟩ <;> simp [hp]
  | y :: l, k + 1, hk, h => by
    cases hy : p y with
    | false => simp [hy] at hk
    | true =>
      simp only [List.takeWhile_cons, hy, if_true, List.length_cons] at hk ⊢
      have := takeWhile_step (p := p) (l := l) (k := k) (x := x) (by omega) (by simpa using h)
      refine ⟨fun hp => ?_, fun hp => ?_⟩
      · obtain ⟨a, b⟩ := this.1 hp
        exact ⟨by simpa using a, by omega⟩
      · have := this.2 hp; omega
end Go.Cur
/- The iterator cursor.spans of this program: it tells the parts of a text that line feeds part. Conditions: a text that a string can be. -/
namespace Go.Proofs
open Go.RowKit Go.Shelf Go.Cur

attribute [local go_sem] Oper.semAt_some

/-- The types of the cells that no round of this program writes: a string's box, the box of a yield. -/
def stillT (_ : Nat) (t : TypeId) : Bool := t == 9 || t == 98

def curSpanV (p : Nat × Nat) : Array Value := #[.int .i64 (p.1 : Int), .int .i64 (p.2 : Int)]
def spansV (s : ByteArray) : List (Array Value) := (spans s.data.toList).map curSpanV

theorem Tryz.spans_calls (s : ByteArray) (w : World) :
    Calls Tryz.prog 68 #[.string s] w fun e w' => e = .returned (.func (.func 81) #[] #[.pointer (some ⟨w.heap.size, 0, none⟩)]) ∧ w' = w.alloc (.cells #[.string s] 9) := by
  go_enter Tryz.func68, Tryz.ntmps68
  go_wp2
  go_ret
  exact ⟨rfl, rfl⟩

set_option maxRecDepth 100000 in
set_option maxHeartbeats 1000000 in
theorem Tryz.spans1_seq (Bs : Nat) (s : ByteArray) (w : World) (hs : s.size ≤ maxLen) (hB : Bs < w.heap.size) (hbox : Boxed w Bs 9 (.string s)) :
    Seq stillT Tryz.prog 81 #[.pointer (some ⟨Bs, 0, none⟩)] (spansV s) w := by
  intro l J Jx W hW hJ hJx hY h0
  unfold maxLen at hs
  have hbW : Boxed W Bs 9 (.string s) := (hW.block Bs hB).trans hbox
  have hBW : Bs < W.heap.size := hbW.lt
  have hcW := hbW.cell
  have hn := fun (wr : World) (pos : Nat) (ty : TypeId) hk h => Lib.run_next_any_at (P := Tryz.prog) wr W.heap.size s pos ty hk h
  have he := fun (wr : World) (pos : Nat) (ty : TypeId) hk h => Lib.run_next_end_at (P := Tryz.prog) wr W.heap.size s pos ty hk h
  refine (callsIn_wide (n := 0)).1 (callsIn_of_wp Tryz.func81 rfl trivial ?_ rfl)
  simp only [Tryz.ntmps81, List.size_toArray, List.length_cons, List.length_nil, Nat.reduceAdd, Nat.reduceSub, Array.replicate_succ, Array.replicate_zero, List.push_toArray, List.append_toArray, List.nil_append, List.cons_append]
  gi_wp2
  gi_loopw [3] (fun v wr => ∃ (pos a k : Nat), v = .int .i64 (a : Int) ∧ wr.heap[W.heap.size]? = some (.stringIter s pos) ∧ Boxed wr Bs 9 (.string s) ∧ pos ≤ s.size ∧ a ≤ pos ∧ (spans s.data.toList).drop k = spansFrom (s.data.toList.drop pos) pos a ∧ J k wr)
    (fun v wr => s.size - wr.iterPos W.heap.size)
  case atStart =>
    exact ⟨0, 0, 0, rfl, World.alloc_heap_new W _, hbW.alloc _, Nat.zero_le _, Nat.le_refl _, by simp [spans], hJ.alloc _ h0⟩
  case round =>
    obtain ⟨pos, a, k, rfl, hit, hbox1, hpos, ha, hdrop, hj⟩ := hrel
    have hcell := hbox1.cell
    by_cases hlt : pos < s.size
    · by_cases hb : s[pos]'hlt = 10
      · -- a line feed
        have hn' := fun ty => hn wr pos ty hit hlt
        rw [decode_feed s pos hlt hb] at hn'
        have hg := list_get s pos hlt
        rw [hb] at hg
        rw [spans_feed _ _ _ hg] at hdrop
        obtain ⟨hx, hdrop'⟩ := drop_step hdrop
        have hx' : (spansV s)[k]? = some (curSpanV (a, pos)) := by simp [spansV, hx]
        have hjt : J k (wr.iterAt W.heap.size s (pos + 1)) := hJ k wr _ (some W.heap.size) hj (grownBy_putObj' wr W.heap.size _) (fun r e => by cases e; exact ⟨Nat.le_refl _, _, hit, rfl⟩)
        have hit2 := Lib.iterAt_heap wr W.heap.size s pos (pos + 1) hit
        have hbox2 : Boxed (wr.iterAt W.heap.size s (pos + 1)) Bs 9 (.string s) := hbox1.kept (grownBy_putObj' wr W.heap.size _) (fun e => by cases e; omega)
        obtain ⟨fn, tmps, assign, body, hy, hR⟩ := hY k _ _ hx' hjt
        have Hx := Lib.hid hdrop'
        clear hn he hY hb hg hdrop hx hx' hdrop' hJx
        simp only [curSpanV] at hy
        gi_wp2
        refine ⟨rfl, hR.mono ?_⟩
        rintro e W3 ⟨hrf, (⟨rfl, hJ3⟩ | ⟨rfl, hJx3⟩)⟩
        · have hit3 := hrf.other _ _ (Nat.le_refl _) hit2 rfl
          have hbox3 := hrf.boxed hbox2 rfl
          gi_wp2
          go_roundw
          case rel => exact ⟨pos + 1, pos + 1, k + 1, by go_num, hit3, hbox3, by omega, by omega, Hx.out, hJ3⟩
          case measure => simp [World.iterPos, hit, hit3]; omega
        · gi_wp2
          refine bodyPost_ret (results_none rfl _ _ _) rfl ?_
          exact ⟨⟨_, rfl⟩, .inr hJx3⟩
      · -- another sign
        obtain ⟨h1, h2, h3, h4⟩ := decode_sign s pos hlt hb
        have hle := decode_le s pos
        have hn' := fun ty => hn wr pos ty hit hlt
        obtain ⟨r, hr⟩ : ∃ r, r = (Utf8.decode s pos).1 := ⟨_, rfl⟩
        obtain ⟨wd, hw⟩ : ∃ wd, wd = (Utf8.decode s pos).2 := ⟨_, rfl⟩
        rw [← hr] at h1 hle hn'
        rw [← hw] at h2 h3 h4 hn'
        clear hr hw
        have hne : (((r : Nat) : Int) != 10) = true := by rw [bne_iff_ne]; omega
        have hdrop' : (spans s.data.toList).drop k = spansFrom (s.data.toList.drop (pos + wd)) (pos + wd) a := by
          rw [hdrop]
          refine spans_sign _ _ _ _ (by simpa using h3) fun j h5 h6 => ?_
          have hj : j < s.size := by omega
          rw [list_get s j hj]
          have := h4 j h5 h6
          rw [get_of s j hj] at this
          intro e
          exact this (by injection e)
        have hjt : J k (wr.iterAt W.heap.size s (pos + wd)) := hJ k wr _ (some W.heap.size) hj (grownBy_putObj' wr W.heap.size _) (fun r e => by cases e; exact ⟨Nat.le_refl _, _, hit, rfl⟩)
        have hit2 := Lib.iterAt_heap wr W.heap.size s pos (pos + wd) hit
        have hbox2 : Boxed (wr.iterAt W.heap.size s (pos + wd)) Bs 9 (.string s) := hbox1.kept (grownBy_putObj' wr W.heap.size _) (fun e => by cases e; omega)
        have Hx := Lib.hid hdrop'
        clear hn he hY hb hdrop hdrop' hJx h4 h1
        gi_wp2
        go_roundw
        case rel => exact ⟨pos + wd, a, k, rfl, hit2, hbox2, h3, by omega, Hx.out, hjt⟩
        case measure => simp [World.iterPos, hit, hit2]; omega
    · -- the end
      have hpe : pos = s.size := by omega
      have he' := fun ty => he wr pos ty hit hlt
      have hl : s.size = s.data.toList.length := by simp
      rw [hpe, hl, spans_end, ← hl] at hdrop
      obtain ⟨hx, _⟩ := drop_step hdrop
      have hlen := drop_one hdrop
      have hx' : (spansV s)[k]? = some (curSpanV (a, s.size)) := by simp [spansV, hx]
      obtain ⟨fn, tmps, assign, body, hy, hR⟩ := hY k _ _ hx' hj
      have hl0 : (spansV s).length = k + 1 := by simp [spansV, hlen]
      have Hl := Lib.hid hl0
      clear hn he hY hdrop hx hx' hlen hl hl0 hJx hpe
      simp only [curSpanV] at hy
      gi_wp2
      refine ⟨rfl, hR.mono ?_⟩
      rintro e W3 ⟨hrf, (⟨rfl, hJ3⟩ | ⟨rfl, hJx3⟩)⟩
      · gi_wp2
        go_end0
        rw [Hl.out]
        exact ⟨⟨_, rfl⟩, .inl hJ3⟩
      · gi_wp2
        go_end0
        exact ⟨⟨_, rfl⟩, .inr hJx3⟩
#print axioms Tryz.spans1_seq
end Go.Proofs
/- cursor.Where and cursor.Place of this program, in plain words over the parts of a text. Conditions: a text that a string can be. -/
namespace Go.Cur
/-- Where: the line and the column of a place, and the error; n lines lie ahead. -/
def whereL : List (Nat × Nat) → Int → Nat → Int × Int × Int
  | [], _, _ => (0, 0, 10)
  | (a, b) :: r, i, n => if i ≤ (b : Int) then ((n : Int) + 1, i - a + 1, 0) else whereL r i (n + 1)
theorem whereL_drop {sp : List (Nat × Nat)} {k a b : Nat} (h : sp[k]? = some (a, b)) (i : Int) : whereL (sp.drop k) i k = if i ≤ (b : Int) then ((k : Int) + 1, i - a + 1, 0) else whereL (sp.drop (k + 1)) i (k + 1) := by
  obtain ⟨hk, he⟩ := List.getElem?_eq_some_iff.1 h
  rw [List.drop_eq_getElem_cons hk, he]; rfl
theorem whereL_end (sp : List (Nat × Nat)) (i : Int) : whereL (sp.drop sp.length) i sp.length = (0, 0, 10) := by simp [whereL]
/-- Place: the place of a line and a column, and the error; n lines lie ahead. -/
def placeL : List (Nat × Nat) → Int → Int → Nat → Int × Int
  | [], _, _, _ => (0, 10)
  | (a, b) :: r, i, c, n => if (n : Int) + 1 = i ∧ c - 1 ≤ (b : Int) - a then ((a : Int) + c - 1, 0) else placeL r i c (n + 1)
theorem placeL_drop {sp : List (Nat × Nat)} {k a b : Nat} (h : sp[k]? = some (a, b)) (i c : Int) : placeL (sp.drop k) i c k = if (k : Int) + 1 = i ∧ c - 1 ≤ (b : Int) - a then ((a : Int) + c - 1, 0) else placeL (sp.drop (k + 1)) i c (k + 1) := by
  obtain ⟨hk, he⟩ := List.getElem?_eq_some_iff.1 h
  rw [List.drop_eq_getElem_cons hk, he]; rfl
theorem placeL_end (sp : List (Nat × Nat)) (i c : Int) : placeL (sp.drop sp.length) i c sp.length = (0, 10) := by simp [placeL]
end Go.Cur
namespace Go.Proofs
open Go.RowKit Go.Shelf Go.Cur
attribute [local go_sem] Oper.semAt_some

theorem spansV_get {s : ByteArray} {k : Nat} {x : Array Value} (h : (spansV s)[k]? = some x) : ∃ a b, x = #[.int .i64 (a : Nat), .int .i64 (b : Nat)] ∧ (spans s.data.toList)[k]? = some (a, b) := by
  simp only [spansV, List.getElem?_map, Option.map_eq_some_iff] at h
  obtain ⟨⟨a, b⟩, hp, rfl⟩ := h
  exact ⟨a, b, rfl, hp⟩

theorem where_close {w W : World} {n B : Nat} {u1 u2 u3 u4 : Value} (c1 : Boxed W (n + 1) 3 u1) (c2 : Boxed W (n + 1 + 1) 3 u2) (c3 : Boxed W (n + 1 + 1 + 1) 25 u3) (c4 : Boxed W (n + 1 + 1 + 1 + 1) 3 u4) (hB1 : Below n w W) (v1 v2 v3 v4 : Value) :
    RF stillT B W ((((W.setCell ⟨n + 1 + 1 + 1 + 1, 0, none⟩ v4).setCell ⟨n + 1, 0, none⟩ v1).setCell ⟨n + 1 + 1, 0, none⟩ v2).setCell ⟨n + 1 + 1 + 1, 0, none⟩ v3).drew ∧
    Boxed ((((W.setCell ⟨n + 1 + 1 + 1 + 1, 0, none⟩ v4).setCell ⟨n + 1, 0, none⟩ v1).setCell ⟨n + 1 + 1, 0, none⟩ v2).setCell ⟨n + 1 + 1 + 1, 0, none⟩ v3).drew (n + 1) 3 v1 ∧
    Boxed ((((W.setCell ⟨n + 1 + 1 + 1 + 1, 0, none⟩ v4).setCell ⟨n + 1, 0, none⟩ v1).setCell ⟨n + 1 + 1, 0, none⟩ v2).setCell ⟨n + 1 + 1 + 1, 0, none⟩ v3).drew (n + 1 + 1) 3 v2 ∧
    Boxed ((((W.setCell ⟨n + 1 + 1 + 1 + 1, 0, none⟩ v4).setCell ⟨n + 1, 0, none⟩ v1).setCell ⟨n + 1 + 1, 0, none⟩ v2).setCell ⟨n + 1 + 1 + 1, 0, none⟩ v3).drew (n + 1 + 1 + 1) 25 v3 ∧
    Below n w ((((W.setCell ⟨n + 1 + 1 + 1 + 1, 0, none⟩ v4).setCell ⟨n + 1, 0, none⟩ v1).setCell ⟨n + 1 + 1, 0, none⟩ v2).setCell ⟨n + 1 + 1 + 1, 0, none⟩ v3).drew := by
  have e1 := c1.other (B' := n + 1 + 1 + 1 + 1) (by omega) v4
  have e2 := (c2.other (B' := n + 1 + 1 + 1 + 1) (by omega) v4).other (B' := n + 1) (by omega) v1
  have e3 := ((c3.other (B' := n + 1 + 1 + 1 + 1) (by omega) v4).other (B' := n + 1) (by omega) v1).other (B' := n + 1 + 1) (by omega) v2
  refine ⟨(((((RF.refl _).set c4 rfl v4).set e1 rfl v1).set e2 rfl v2).set e3 rfl v3).drew, ?_, ?_, ?_, ?_⟩
  · exact ((e1.set v1).other (by omega) v2).other (by omega) v3
  · exact (e2.set v2).other (by omega) v3
  · exact e3.set v3
  · exact ((((hB1.setCell (p := ⟨n + 1 + 1 + 1 + 1, 0, none⟩) (by simp; omega) v4).setCell (p := ⟨n + 1, 0, none⟩) (by simp) v1).setCell (p := ⟨n + 1 + 1, 0, none⟩) (by simp; omega) v2).setCell (p := ⟨n + 1 + 1 + 1, 0, none⟩) (by simp; omega) v3).drew


end Go.Proofs
/- cursor.Place of this program, in plain words over the parts of a text. Conditions: a text of at most a million bytes. -/
namespace Go.Proofs
open Go.RowKit Go.Shelf Go.Cur
attribute [local go_sem] Oper.semAt_some


end Go.Proofs
/- cursor.lineOf of this program: the line of a part of a text. Conditions: a text of at most a million bytes. -/
namespace Go.Cur
/-- The line of a part: its first byte, the place behind its last one, where the next line begins. -/
def lineAt (l : List UInt8) (p : Nat × Nat) : Nat × Nat × Nat :=
  if p.2 = l.length then (p.1, p.2, p.2) else (p.1, if p.1 < p.2 ∧ l[p.2 - 1]? = some 13 then p.2 - 1 else p.2, p.2 + 1)
def lines (l : List UInt8) : List (Nat × Nat × Nat) := ((spans l).takeWhile fun p => p.1 != l.length).map (lineAt l)
end Go.Cur
namespace Go.Proofs
open Go.RowKit Go.Shelf Go.Cur
attribute [local go_sem] Oper.semAt_some

def lineV (p : Nat × Nat × Nat) : Value := .agg #[.int .i64 (p.1 : Int), .int .i64 (p.2.1 : Int), .int .i64 (p.2.2 : Int)]
def linesV (s : ByteArray) : List (Array Value) := (lines s.data.toList).map fun p => #[lineV p]

set_option maxHeartbeats 400000 in
theorem Tryz.lineOf_calls (s : ByteArray) (a b : Nat) (w : World) (hs : s.size ≤ 1000000) (hab : a ≤ b) (hb : b ≤ s.size) :
    Calls Tryz.prog 69 #[.string s, .int .i64 (a : Int), .int .i64 (b : Int)] w fun e w' => e = .returned (lineV (lineAt s.data.toList (a, b))) ∧ Below w.heap.size w w' := by
  by_cases he : b = s.size
  · have hbe : (((b : Nat) : Int) == (s.size : Int)) = true := by rw [beq_iff_eq]; omega
    have hl : lineAt s.data.toList (a, b) = (a, b, b) := by simp [lineAt, he]
    have Hl := Lib.hid hl
    clear hl he
    go_enter Tryz.func69, Tryz.ntmps69
    go_wp2
    rw [Hl.out]
    exact bodyPost_ret (v := .agg #[.int .i64 a, .int .i64 b, .int .i64 b]) (by simp [results, Tryz.results69, go_sem]) rfl ⟨rfl, (Below.refl _ w).alloc (Nat.le_refl _) _⟩
  · have hbe : (((b : Nat) : Int) == (s.size : Int)) = false := by rw [beq_eq_false_iff_ne]; omega
    by_cases hlt : a < b
    · have hgt : decide ((a : Int) < (b : Int)) = true := by simpa using hlt
      have hb1 : 0 ≤ (b : Int) - 1 := by omega
      have hb2 : ((b : Int) - 1).toNat = b - 1 := by omega
      have hb3 : b - 1 < s.size := by omega
      by_cases h13 : s[b - 1]'hb3 = 13
      · have h13' : (((s[b - 1]'hb3).toNat : Int) == 13) = true := by rw [h13]; rfl
        have hl : lineAt s.data.toList (a, b) = (a, b - 1, b + 1) := by
          simp only [lineAt]; rw [if_neg (by simpa using he), list_get s (b - 1) hb3, h13, if_pos ⟨hlt, rfl⟩]
        have Hl := Lib.hid hl
        clear hl he h13
        go_enter Tryz.func69, Tryz.ntmps69
        go_wp2
        rw [Hl.out]
        have e3 : ((b - 1 : Nat) : Int) = (b : Int) - 1 := by omega
        refine bodyPost_ret (v := .agg #[.int .i64 a, .int .i64 ((b : Int) - 1), .int .i64 ((b : Int) + 1)]) (by simp [results, Tryz.results69, go_sem]) rfl ⟨?_, ((Below.refl _ w).alloc (Nat.le_refl _) _).alloc (by simp) _⟩
        simp [lineV, e3]
      · have h13' : (((s[b - 1]'hb3).toNat : Int) == 13) = false := by
          rw [beq_eq_false_iff_ne]
          intro e
          exact h13 (UInt8.toNat_inj.1 (by have e' : (s[b - 1]'hb3).toNat = 13 := by omega
                                           exact e'))
        have hl : lineAt s.data.toList (a, b) = (a, b, b + 1) := by
          simp only [lineAt]; rw [if_neg (by simpa using he), list_get s (b - 1) hb3, if_neg (fun h => h13 (Option.some.inj h.2))]
        have Hl := Lib.hid hl
        clear hl he h13
        go_enter Tryz.func69, Tryz.ntmps69
        go_wp2
        rw [Hl.out]
        refine bodyPost_ret (v := .agg #[.int .i64 a, .int .i64 b, .int .i64 ((b : Int) + 1)]) (by simp [results, Tryz.results69, go_sem]) rfl ⟨?_, ((Below.refl _ w).alloc (Nat.le_refl _) _).alloc (by simp) _⟩
        simp [lineV]
    · have hgt : decide ((a : Int) < (b : Int)) = false := by simpa using hlt
      have hl : lineAt s.data.toList (a, b) = (a, b, b + 1) := by
        simp only [lineAt]; rw [if_neg (by simpa using he), if_neg (fun h => hlt h.1)]
      have Hl := Lib.hid hl
      clear hl he
      go_enter Tryz.func69, Tryz.ntmps69
      go_wp2
      rw [Hl.out]
      refine bodyPost_ret (v := .agg #[.int .i64 a, .int .i64 b, .int .i64 ((b : Int) + 1)]) (by simp [results, Tryz.results69, go_sem]) rfl ⟨?_, ((Below.refl _ w).alloc (Nat.le_refl _) _).alloc (by simp) _⟩
      simp [lineV]

#print axioms Tryz.lineOf_calls
end Go.Proofs
/- A region that draws its order, within a round of a loop over a function: it goes as it goes outside one, if it holds no defer statement. -/
namespace Go
open Go.RowKit
variable {F : Fence} {n : Nat} {P : Program} {ops : Array Oper} {Q : Exit → Act → World → Prop} {md : Region.Mode}

theorem Oper.wpIn_into {o : Oper} {a : Act} {w : World} {K : Act → World → Prop} (l : Nat) (hro : F.round = none) (hnd : ∀ c, o.op ≠ .defer c) (h : o.wpIn F n P a w K Q) : o.wpIn (F.inRound l) n P a w K Q := by
  unfold Oper.wpIn at h ⊢
  refine ⟨h.1, ?_⟩
  have h2 := h.2
  rw [hro, Oper.semAt_none] at h2
  rw [Fence.inRound_round, Oper.semAt_some l _ _ hnd]
  revert h2
  generalize (execOp a.eval o).run P w = r
  intro h2
  cases r with
  | ok v w' => cases v <;> exact h2
  | halt c w' => cases c <;> exact h2

theorem wpAnyIn_into (l : Nat) (hro : F.round = none) (hnd : ∀ (i : Nat) (o : Oper), ops[i]? = some o → ∀ c, o.op ≠ .defer c) :
    ∀ (fuel : Nat) (listed : Array Bool) (a : Act) (w : World), wpAnyIn F n P md ops Q fuel listed a w → wpAnyIn (F.inRound l) n P md ops Q fuel listed a w
  | 0, _, _, _, h => h
  | fuel + 1, listed, a, w, h => by
    refine ⟨h.1, fun i hi => ?_⟩
    have h1 := wpOpIn_mono (K' := wpAnyIn (F.inRound l) n P md ops Q fuel (listed.setIfInBounds i true)) (fun a w => wpAnyIn_into l hro hnd fuel _ a w) (h.2 i hi)
    unfold wpOpIn at h1 ⊢
    cases ho : ops[i]? with
    | none => simpa [ho] using h1
    | some o =>
      simp only [ho] at h1 ⊢
      split
      · rename_i hw
        rw [if_pos hw] at h1
        exact Oper.wpIn_into l hro (hnd i o ho) h1
      · rename_i hw
        rw [if_neg hw] at h1
        exact h1

def Oper.noDefer (o : Oper) : Bool := match o.op with | .defer _ => false | _ => true
theorem noDefer_spec (h : ops.all Oper.noDefer = true) (i : Nat) (o : Oper) (ho : ops[i]? = some o) : ∀ c, o.op ≠ .defer c := by
  intro c e
  obtain ⟨hi, rfl⟩ := Array.getElem?_eq_some_iff.1 ho
  have := (Array.all_eq_true.1 h) i hi
  simp [Oper.noDefer, e] at this

theorem wpIn_region_round {id : Nat} {a : Act} {w : World} {l : Nat} (hro : F.round = none) (hm : P.follows .mixedOrders = true) (hnd : ops.all Oper.noDefer = true)
    (h : wpAnyIn F n P .any ops Q ops.size (Array.replicate ops.size false) a w.drew) : (Code.region id ops true).wpIn (F.inRound l) n P Q a w :=
  wpIn_region_any hm (wpAnyIn_into l hro (noDefer_spec hnd) _ _ _ _ h)

theorem wpIn_region_quiet_round {id : Nat} {a : Act} {w : World} {ol : List Oper} {l : Nat} (hro : F.round = none) (hm : P.follows .mixedOrders = true) (hnd : ol.toArray.all Oper.noDefer = true) (hB : Region.lexB .any ol.toArray = true)
    (h : wpQuietIn F n P ol.toArray (fun w' => ∃ m, w' = w.drewN m) (fun a' => ∀ w', (∃ m, w' = w.drewN m) → Q .normal a' w') ol a) : (Code.region id ol.toArray true).wpIn (F.inRound l) n P Q a w := by
  refine wpIn_region_round hro hm hnd ?_
  simp only [Region.lexB, Bool.and_eq_true] at hB
  refine wpAnyIn_of_quiet (C := fun w' => ∃ m, w' = w.drewN m) (Q := fun a' => ∀ w', (∃ m, w' = w.drewN m) → Q .normal a' w') hro (fun _ w' hw' h => h w' hw') _ _ _ _ ⟨1, rfl⟩ ?_
  have := wpAnyQIn_lex (F := F) (n := n) (md := .any) hB.1 ol 0 (Array.replicate ol.toArray.size false) a (by simp) (by simpa using hB.2) h
  simpa using this
#print axioms wpIn_region_quiet_round
end Go
/- The iterator cursor.lines of this program: it tells the lines of a text. Conditions: a text of at most a million bytes. -/
namespace Go.Proofs
open Go.RowKit Go.Shelf Go.Cur
attribute [local go_sem] Oper.semAt_some

theorem Tryz.lines_calls (s : ByteArray) (w : World) :
    Calls Tryz.prog 47 #[.string s] w fun e w' => e = .returned (.func (.func 67) #[] #[.pointer (some ⟨w.heap.size, 0, none⟩)]) ∧ w' = w.alloc (.cells #[.string s] 9) := by
  go_enter Tryz.func47, Tryz.ntmps47
  go_wp2
  go_ret
  exact ⟨rfl, rfl⟩

set_option maxRecDepth 100000 in
set_option maxHeartbeats 1000000 in
theorem Tryz.lines1_seq (Bs : Nat) (s : ByteArray) (w : World) (hs : s.size ≤ 1000000) (hB : Bs < w.heap.size) (hbox : Boxed w Bs 9 (.string s)) :
    Seq stillT Tryz.prog 67 #[.pointer (some ⟨Bs, 0, none⟩)] (linesV s) w := by
  intro l J Jx W hW hJ hJx hY h0
  have hbW : Boxed W Bs 9 (.string s) := (hW.block Bs hB).trans hbox
  have hBW : Bs < W.heap.size := hbW.lt
  have hcW := hbW.cell
  refine (callsIn_wide (n := 0)).1 (callsIn_of_wp_marks Tryz.func67 rfl trivial ?_ rfl)
  simp only [Tryz.ntmps67, List.size_toArray, List.length_cons, List.length_nil, Nat.reduceAdd, Nat.reduceSub, Array.replicate_succ, Array.replicate_zero, List.push_toArray, List.append_toArray, List.nil_append, List.cons_append]
  gi_wp2_with (refine ⟨trivial, rfl, ?_⟩; gi_at_call 68; refine (callsIn_wide.2 (Tryz.spans_calls _ _)).mono ?_; rintro e w' ⟨rfl, rfl⟩)
  obtain ⟨V, hV⟩ : ∃ V, V = (W.alloc (Obj.cells #[Value.func (Fn.yield l) #[] #[]] 98)).alloc (Obj.cells #[Value.string s] 9) := ⟨_, rfl⟩
  have hVs : V.heap.size = W.heap.size + 1 + 1 := by rw [hV]; simp
  have b0 : Boxed V W.heap.size 98 (.func (.yield l) #[] #[]) := by rw [hV]; exact (Boxed.new W 98 _).alloc _
  have b1 : Boxed V (W.heap.size + 1) 9 (.string s) := by rw [hV]; exact Boxed.at 9 _ (by simp)
  have b2 : Boxed V Bs 9 (.string s) := by rw [hV]; exact (hbW.alloc _).alloc _
  have j0 : J 0 V := by rw [hV]; exact hJ.alloc _ (hJ.alloc _ h0)
  rw [← hV]
  clear hV
  have hup : ∀ {X : World} {row : Option Nat}, (∀ r, row = some r → V.heap.size ≤ r ∧ ∃ o : Obj, X.heap[r]? = some o ∧ o.isCells = false) → (∀ r, row = some r → W.heap.size ≤ r ∧ ∃ o : Obj, X.heap[r]? = some o ∧ o.isCells = false) :=
    fun hr r e => ⟨by have := (hr r e).1; omega, (hr r e).2⟩
  refine range_seq (gf := 81) (lb := #[.pointer (some ⟨W.heap.size + 1, 0, none⟩)]) rfl (enters_of Tryz.func81 (by kernel_rfl) rfl)
    (Tryz.spans1_seq _ s V (by unfold maxLen; omega) (by omega) b1) (Below.refl _ _) (fun k x h => by obtain ⟨a, b, rfl, _⟩ := spansV_get h; rfl)
    (fun k X => Boxed X W.heap.size 98 (.func (.yield l) #[] #[]) ∧ Boxed X Bs 9 (.string s) ∧ k ≤ (linesV s).length ∧ J k X)
    (fun c X => c = .ret ∧ (J (linesV s).length X ∨ Jx X))
    (fun k X Y row h hg hr => ⟨h.1.own hg hr, h.2.1.own hg hr, h.2.2.1, hJ k X Y row h.2.2.2 hg (hup hr)⟩)
    (fun c _ X Y row h hg hr => ⟨h.1, h.2.imp (fun h => hJ _ X Y row h hg (hup hr)) (fun h => hJx () X Y row h hg (hup hr))⟩)
    ⟨b0, b2, Nat.zero_le _, j0⟩
    (fun x a' _ => a' = { tmps := #[.func (.yield l) #[] #[], .pointer (some ⟨Bs, 0, none⟩), .pointer (some ⟨W.heap.size, 0, none⟩), x[0]!, x[1]!, .string s, .func (.func 81) #[] #[.pointer (some ⟨W.heap.size + 1, 0, none⟩)], x[0]!, x[1]!, undef, undef, undef, undef, undef, undef, undef, undef, undef, undef, undef, undef, undef], defers := [] })
    (fun _ _ _ _ _ _ h _ _ => h) ?assign ?body ?done ?stop
  case assign =>
    intro l k x W K hx hi hK
    obtain ⟨a, b, rfl, hx⟩ := spansV_get hx
    gi_wp2
    exact hK _ _ (RF.refl _) hi rfl
  case body =>
    rintro l' k x a' X hx0 ⟨c0, c1, hk, hj⟩ rfl
    obtain ⟨a, b, rfl, hx⟩ := spansV_get hx0
    clear hx0
    have hc0 := c0.cell
    have hc1 := c1.cell
    obtain ⟨hab, hbl, hkl⟩ := spans_get hx
    simp only [Array.length_toList, show s.data.size = s.size from rfl] at hbl hkl
    have hmx : Tryz.prog.follows .mixedOrders = true := by kernel_rfl
    have hfn : ∀ f, Fence.wide.fn f := fun _ => trivial
    have hdp : Fence.wide.depth = none := rfl
    have hll : (linesV s).length = ((spans s.data.toList).takeWhile fun p => p.1 != s.data.toList.length).length := by simp [linesV, lines]
    have hst := takeWhile_step (p := fun p : Nat × Nat => p.1 != s.data.toList.length) (by rw [← hll]; exact hk) hx
    by_cases ha : a = s.size
    · have hae : (((a : Nat) : Int) == (s.size : Int)) = true := by rw [beq_iff_eq]; omega
      have hkk : (linesV s).length = k := by rw [hll]; exact hst.2 (by simp [ha])
      have Hk := Lib.hid hkk
      clear hst hll hkk hx ha hY
      simp only [List.getElem!_toArray, List.getElem!_cons_zero, List.getElem!_cons_succ]
      gi_wp2
      refine wpIn_region_quiet_round rfl hmx (by kernel_rfl) (by kernel_rfl) ?_
      repeat (gi_big_quiet_step (fail))
      refine wpQuietIn_nil ?_
      intro _ hw1
      obtain ⟨nq, hw2⟩ := hw1
      subst hw2
      gi_wp2
      rw [Hk.out]
      exact ⟨⟨Nat.le_refl _, fun _ _ _ h _ => h, fun _ _ _ _ _ h => h⟩, rfl, .inl (hJ k X _ none hj ⟨rfl, rfl, rfl, Nat.le_refl _, fun _ _ _ => rfl⟩ (fun r e => by cases e))⟩
    · have hae : (((a : Nat) : Int) == (s.size : Int)) = false := by rw [beq_eq_false_iff_ne]; omega
      obtain ⟨hst1, hst2⟩ := hst.1 (by simpa using ha)
      have hxl : (linesV s)[k]? = some #[lineV (lineAt s.data.toList (a, b))] := by simp only [linesV, lines, List.getElem?_map, hst1, Option.map_some]
      have hkk : k + 1 ≤ (linesV s).length := by rw [hll]; exact hst2
      have hY1 : ∀ w1, Below X.heap.size X w1 → ∃ fn tmps assign body, (Instr.yield l #[lineV (lineAt s.data.toList (a, b))]).run Tryz.prog w1 = .ok (.round l fn tmps assign body) w1 ∧
          RoundIn (Fence.wide.inRound l') 0 Tryz.prog l fn tmps assign body w1 fun e W' => ∃ bb, e = .returned (.bool bb) ∧ RF stillT W.heap.size w1 W' ∧ ((bb = true ∧ J (k + 1) W') ∨ (bb = false ∧ Jx W')) := by
        intro w1 hb1
        obtain ⟨fn, tmps, assign, body, hy, hR⟩ := hY k _ w1 hxl (hJ.below hj hb1 (Nat.le_refl _))
        refine ⟨fn, tmps, assign, body, hy, (hR.mono ?_).into l'⟩
        rintro e W' ⟨h1, ⟨rfl, h2⟩ | ⟨rfl, h2⟩⟩
        · exact ⟨true, rfl, h1, .inl ⟨rfl, h2⟩⟩
        · exact ⟨false, rfl, h1, .inr ⟨rfl, h2⟩⟩
      have HY := Lib.hid hY1
      have hlt0 : W.heap.size < X.heap.size := c0.lt
      have hltB : Bs < X.heap.size := c1.lt
      obtain ⟨lv, hlv⟩ : ∃ lv, lv = lineV (lineAt s.data.toList (a, b)) := ⟨_, rfl⟩
      clear hst hll hx ha hY hY1 hst1 hst2 hxl
      have hlo := fun w1 : World => Tryz.lineOf_calls s a b w1 hs hab hbl
      rw [← hlv] at HY hlo
      have HL := Lib.hid hlo
      clear hlv hlo
      simp only [List.getElem!_toArray, List.getElem!_cons_zero, List.getElem!_cons_succ]
      gi_wp2
      refine wpIn_region_round rfl hmx (by kernel_rfl) ?_
      refine wpAnyIn_take (i := 0) (v := ?_) rfl rfl (by kernel_rfl) (by kernel_rfl) (by kernel_rfl) (fun _ _ _ h => h) ⟨Or.inl ⟨by rfl, ?_⟩, fun _ => rfl⟩ ?_
      rotate_left
      · (intro w0; go_simp; try with_reducible rfl)
      refine wpAnyIn_ready (rs := [1]) (by kernel_rfl) (by simp) (AllReadyIn.cons rfl (fun K hK => ?_) AllReadyIn.nil); go_simp; refine hK _ _ ?_; clear hK K
      refine wpAnyIn_ready (rs := [2]) (by kernel_rfl) (by simp) (AllReadyIn.cons rfl (fun K hK => ?_) AllReadyIn.nil); go_simp; refine hK _ _ ?_; clear hK K
      refine wpAnyIn_ready (rs := [3]) (by kernel_rfl) (by simp) (AllReadyIn.cons rfl (fun K hK => ?_) AllReadyIn.nil); go_simp; refine hK _ _ ?_; clear hK K
      refine wpAnyIn_ready (rs := [4]) (by kernel_rfl) (by simp) (AllReadyIn.cons rfl (fun K hK => ?_) AllReadyIn.nil); go_simp; refine hK _ _ ?_; clear hK K
      refine wpAnyIn_take (i := 7) (v := ?_) rfl rfl (by kernel_rfl) (by kernel_rfl) (by kernel_rfl) (fun _ _ _ h => h) ⟨Or.inl ⟨by rfl, ?_⟩, fun _ => rfl⟩ ?_
      rotate_left
      · (intro w0; go_simp; try with_reducible rfl)
      refine wpAnyIn_take (i := 8) (v := ?_) rfl rfl (by kernel_rfl) (by kernel_rfl) (by kernel_rfl) (fun _ _ _ h => h) ⟨Or.inl ⟨by rfl, ?_⟩, fun _ => rfl⟩ ?_
      rotate_left
      · (intro w0; go_simp; try with_reducible rfl)
      refine wpAnyIn_ready (rs := [5, 6]) (by kernel_rfl) (by simp) (AllReadyIn.cons rfl (fun K hK => ?_) (AllReadyIn.cons rfl (fun K hK => ?_) AllReadyIn.nil))
      · go_simp; refine hK _ _ ?_; clear hK K
        refine wpAnyIn_ready (rs := [6]) (by kernel_rfl) (by simp) (AllReadyIn.cons rfl (fun K hK => ?_) AllReadyIn.nil); go_simp; refine hK _ _ ?_; clear hK K
        refine wpAnyIn_ready (rs := [9]) (by kernel_rfl) (by simp) (AllReadyIn.cons rfl (fun K hK => ?_) AllReadyIn.nil); go_simp; refine (callsIn_wide.2 (HL.out _)).mono ?_; rintro e w1 ⟨rfl, hb1⟩; refine hK _ _ ?_; clear hK K
        have hb2 : Below X.heap.size X w1 := (Below.refl _ _).drew.trans hb1
        obtain ⟨fn, tmps, assign, body, hy, hR⟩ := HY.out w1 hb2
        refine wpAnyIn_ready (rs := [10]) (by kernel_rfl) (by simp) (AllReadyIn.cons rfl (fun K hK => ?_) AllReadyIn.nil); go_simp; refine hR.mono ?_; rintro e w2 ⟨bb, rfl, hrf, hor⟩; refine hK _ _ ?_; clear hK K
        refine wpAnyIn_ready (rs := [11]) (by kernel_rfl) (by simp) (AllReadyIn.cons rfl (fun K hK => ?_) AllReadyIn.nil); go_simp; refine hK _ _ ?_; clear hK K
        refine wpAnyIn_ready (rs := [12]) (by kernel_rfl) (by simp) (AllReadyIn.cons rfl (fun K hK => ?_) AllReadyIn.nil); go_simp; refine hK _ _ ?_; clear hK K
        refine wpAnyIn_done (by kernel_rfl) ?_ _
        have hrf2 : RF stillT V.heap.size X w2 := ((RF.refl X).below hb2 (Nat.le_refl _)).trans (hrf.mono (by omega))
        rcases hor with ⟨rfl, h2⟩ | ⟨rfl, h2⟩
        · gi_wp2
          exact ⟨hrf2, hrf2.boxed c0 rfl, hrf2.boxed c1 rfl, hkk, h2⟩
        · gi_wp2
          exact ⟨hrf2, rfl, .inr h2⟩
      · go_simp; refine hK _ _ ?_; clear hK K
        refine wpAnyIn_ready (rs := [5, 9]) (by kernel_rfl) (by simp) (AllReadyIn.cons rfl (fun K hK => ?_) (AllReadyIn.cons rfl (fun K hK => ?_) AllReadyIn.nil))
        · go_simp; refine hK _ _ ?_; clear hK K
          refine wpAnyIn_ready (rs := [9]) (by kernel_rfl) (by simp) (AllReadyIn.cons rfl (fun K hK => ?_) AllReadyIn.nil); go_simp; refine (callsIn_wide.2 (HL.out _)).mono ?_; rintro e w1 ⟨rfl, hb1⟩; refine hK _ _ ?_; clear hK K
          have hb2 : Below X.heap.size X w1 := (Below.refl _ _).drew.trans hb1
          obtain ⟨fn, tmps, assign, body, hy, hR⟩ := HY.out w1 hb2
          refine wpAnyIn_ready (rs := [10]) (by kernel_rfl) (by simp) (AllReadyIn.cons rfl (fun K hK => ?_) AllReadyIn.nil); go_simp; refine hR.mono ?_; rintro e w2 ⟨bb, rfl, hrf, hor⟩; refine hK _ _ ?_; clear hK K
          refine wpAnyIn_ready (rs := [11]) (by kernel_rfl) (by simp) (AllReadyIn.cons rfl (fun K hK => ?_) AllReadyIn.nil); go_simp; refine hK _ _ ?_; clear hK K
          refine wpAnyIn_ready (rs := [12]) (by kernel_rfl) (by simp) (AllReadyIn.cons rfl (fun K hK => ?_) AllReadyIn.nil); go_simp; refine hK _ _ ?_; clear hK K
          refine wpAnyIn_done (by kernel_rfl) ?_ _
          have hrf2 : RF stillT V.heap.size X w2 := ((RF.refl X).below hb2 (Nat.le_refl _)).trans (hrf.mono (by omega))
          rcases hor with ⟨rfl, h2⟩ | ⟨rfl, h2⟩
          · gi_wp2
            exact ⟨hrf2, hrf2.boxed c0 rfl, hrf2.boxed c1 rfl, hkk, h2⟩
          · gi_wp2
            exact ⟨hrf2, rfl, .inr h2⟩
        · go_simp; refine (callsIn_wide.2 (HL.out _)).mono ?_; rintro e w1 ⟨rfl, hb1⟩; refine hK _ _ ?_; clear hK K
          have hc0' : w1.cell? ⟨W.heap.size, 0, none⟩ = some (.func (.yield l) #[] #[]) := (hb1.cell (p := ⟨W.heap.size, 0, none⟩) hlt0).trans hc0
          refine wpAnyIn_ready (rs := [5]) (by kernel_rfl) (by simp) (AllReadyIn.cons rfl (fun K hK => ?_) AllReadyIn.nil); go_simp; refine hK _ _ ?_; clear hK K
          have hb2 : Below X.heap.size X w1 := (Below.refl _ _).drew.trans hb1
          obtain ⟨fn, tmps, assign, body, hy, hR⟩ := HY.out w1 hb2
          refine wpAnyIn_ready (rs := [10]) (by kernel_rfl) (by simp) (AllReadyIn.cons rfl (fun K hK => ?_) AllReadyIn.nil); go_simp; refine hR.mono ?_; rintro e w2 ⟨bb, rfl, hrf, hor⟩; refine hK _ _ ?_; clear hK K
          refine wpAnyIn_ready (rs := [11]) (by kernel_rfl) (by simp) (AllReadyIn.cons rfl (fun K hK => ?_) AllReadyIn.nil); go_simp; refine hK _ _ ?_; clear hK K
          refine wpAnyIn_ready (rs := [12]) (by kernel_rfl) (by simp) (AllReadyIn.cons rfl (fun K hK => ?_) AllReadyIn.nil); go_simp; refine hK _ _ ?_; clear hK K
          refine wpAnyIn_done (by kernel_rfl) ?_ _
          have hrf2 : RF stillT V.heap.size X w2 := ((RF.refl X).below hb2 (Nat.le_refl _)).trans (hrf.mono (by omega))
          rcases hor with ⟨rfl, h2⟩ | ⟨rfl, h2⟩
          · gi_wp2
            exact ⟨hrf2, hrf2.boxed c0 rfl, hrf2.boxed c1 rfl, hkk, h2⟩
          · gi_wp2
            exact ⟨hrf2, rfl, .inr h2⟩
  case done =>
    rintro D X hD ⟨c0, c1, hk, hj⟩ hK
    gi_wp2
    refine ⟨by simp, .inl ⟨_, _, rfl, run_takeDeferred hK, ?_⟩⟩
    refine ⟨_, results_none rfl _ _ _, ⟨_, rfl⟩, .inl ?_⟩
    have he : (spansV s).length = (linesV s).length := by
      have h1 : (linesV s).length ≤ (spansV s).length := by simp only [linesV, lines, spansV, List.length_map]; exact (List.takeWhile_sublist _).length_le
      omega
    rw [← he]
    exact hJ.putObj _ hj (by omega) hK rfl
  case stop =>
    rintro D r X hD ⟨rfl, hj⟩ hK
    gi_wp2
    refine ⟨by simp, .inl ⟨_, _, rfl, run_takeDeferred hK, ?_⟩⟩
    refine ⟨_, results_none rfl _ _ _, ⟨_, rfl⟩, ?_⟩
    exact hj.imp (fun h => hJ.putObj _ h (by omega) hK rfl) (fun h => hJx.putObj (s := ()) _ h (by omega) hK rfl)
#print axioms Tryz.lines1_seq
end Go.Proofs
/- slices.Collect and slices.AppendSeq as this program calls them, over an iterator of lines; cursor.Lines. Conditions: a text of at most a million bytes. -/
namespace Go
open Go.RowKit
theorem RF.appended {T : Nat → TypeId → Bool} {W w1 : World} {n₀ B B0 : Nat} {t e : TypeId} {size : Nat} {v v' : Value} {k : Nat} {xs : List Value} {tmp : Obj}
    (hrow : W.ownsRow n₀ e size v k xs) (ht : T B t = false) (he : ∀ j, T j e = false) (hgrow : (W.alloc tmp).grownBy w1 v.ownBlock) (hv1 : Boxed w1 B t v) : RF T B0 W (w1.setCell ⟨B, 0, none⟩ v') := by
  refine RF.set (RF.grown ((RF.refl W).alloc tmp) hgrow fun j ej o ho => ?_) hv1 ht v'
  rcases (hrow.alloc tmp).2 with ⟨rfl, _⟩ | ⟨g, cap, cur, rfl, _, hgb, _⟩
  · simp [Value.ownBlock] at ej
  · obtain rfl : g = j := by simpa [Value.ownBlock] using ej
    rw [hgb] at ho; cases ho; exact ⟨_, _, _, rfl, he _⟩
end Go
namespace Go.Proofs
open Go.RowKit Go.Shelf Go.Cur
attribute [local go_sem] Oper.semAt_some

def lineCells (ps : List (Nat × Nat × Nat)) : List Value := ps.flatMap fun p => [.int .i64 (p.1 : Int), .int .i64 (p.2.1 : Int), .int .i64 (p.2.2 : Int)]
theorem lineCells_snoc (ps : List (Nat × Nat × Nat)) (a b c : Nat) : lineCells (ps ++ [(a, b, c)]) = lineCells ps ++ [.int .i64 (a : Int), .int .i64 (b : Int), .int .i64 (c : Int)] := by simp [lineCells]
theorem take_get {α : Type} {l : List α} {k : Nat} {x : α} (h : l[k]? = some x) : l.take (k + 1) = l.take k ++ [x] := by
  obtain ⟨hk, rfl⟩ := List.getElem?_eq_some_iff.1 h
  exact List.take_succ_eq_append_getElem hk

theorem map_get {α β : Type} {f : α → β} {l : List α} {k : Nat} {x : β} (h : (l.map f)[k]? = some x) : ∃ p, l[k]? = some p ∧ x = f p := by
  rw [List.getElem?_map, Option.map_eq_some_iff] at h
  obtain ⟨p, h1, h2⟩ := h
  exact ⟨p, h1, h2.symm⟩
theorem curcells_new (W : World) (c : Array Value) (t : TypeId) : ∀ (j : Nat) (u : Value), c.toList[j]? = some u → (W.alloc (.cells c t)).cell? ((⟨W.heap.size, 0, none⟩ : Addr).add j) = some u := by
  intro j u h
  have e := World.alloc_heap_new W (.cells c t)
  have hb : ((⟨W.heap.size, 0, none⟩ : Addr).add j) = ⟨W.heap.size, j, none⟩ := by
    unfold Addr.add
    split
    · rename_i h0; rw [h0]
    · simp
  rw [hb]
  unfold World.cell?
  simp only [e]
  simpa using h

theorem Tryz.info41 : (Tryz.prog.info? 41).map (fun i => (i.zero, i.size, i.bytes)) = some (some (.agg #[.int .i64 0, .int .i64 0, .int .i64 0]), 3, 24) := by kernel_rfl


theorem enters27 : ∀ args w, (callFunc 67 args).run Tryz.prog w = .ok (.enter 67 args) w := enters_of Tryz.func67 (by kernel_rfl) rfl


theorem spans_len' (s : ByteArray) : (spans s.data.toList).length ≤ s.size + 1 := by
  have := spans_len s.data.toList 0 0
  simpa [spans] using this
theorem lines_len (s : ByteArray) : (lines s.data.toList).length ≤ s.size + 1 := by
  have h1 := spans_len' s
  have h2 : (lines s.data.toList).length ≤ (spans s.data.toList).length := by simp only [lines, List.length_map]; exact (List.takeWhile_sublist _).length_le
  omega

end Go.Proofs
/- cursor.Blank of this program at a part of a text. Conditions: the part lies in the text. -/
namespace Go.Cur
def blankL (l : List UInt8) : Bool := l.all fun c => c == 32 || c == 9
/-- The bytes from a up to b. -/
def cutL (l : List UInt8) (a b : Nat) : List UInt8 := l.extract a b
theorem blank_decode (s : ByteArray) (pos : Nat) (h : pos < s.size) :
    (((Utf8.decode s pos).1 = 32 ∨ (Utf8.decode s pos).1 = 9) → (s[pos]'h == 32 || s[pos]'h == 9) = true ∧ (Utf8.decode s pos).2 = 1) ∧
    (((Utf8.decode s pos).1 ≠ 32 ∧ (Utf8.decode s pos).1 ≠ 9) → (s[pos]'h == 32 || s[pos]'h == 9) = false) := by
  by_cases ha : (s[pos]'h).toNat < 128
  · rw [decode_ascii s pos h ha]
    constructor
    · rintro (e | e)
      · have : s[pos]'h = 32 := UInt8.toNat_inj.1 e
        simp [this]
      · have : s[pos]'h = 9 := UInt8.toNat_inj.1 e
        simp [this]
    · rintro ⟨e1, e2⟩
      have h1 : s[pos]'h ≠ 32 := fun e => e1 (by rw [e]; rfl)
      have h2 : s[pos]'h ≠ 9 := fun e => e2 (by rw [e]; rfl)
      simp [h1, h2]
  · have hh := decode_high s pos h (by omega)
    refine ⟨fun e => by omega, fun _ => ?_⟩
    have h1 : s[pos]'h ≠ 32 := fun e => ha (by rw [e]; decide)
    have h2 : s[pos]'h ≠ 9 := fun e => ha (by rw [e]; decide)
    simp [h1, h2]
theorem blankL_drop (l : List UInt8) (p : Nat) (c : UInt8) (h : l[p]? = some c) : blankL (l.drop p) = ((c == 32 || c == 9) && blankL (l.drop (p + 1))) := by
  obtain ⟨hp, rfl⟩ := List.getElem?_eq_some_iff.1 h
  rw [List.drop_eq_getElem_cons hp]; rfl
theorem extract_list (s : ByteArray) (a b : Nat) : (s.extract a b).data.toList = cutL s.data.toList a b := by
  rw [ByteArray.data_extract, Array.toList_extract]; rfl
end Go.Cur
namespace Go.Proofs
open Go.RowKit Go.Shelf Go.Cur

set_option maxHeartbeats 400000 in
theorem Tryz.curblank_calls (r : Int) (w : World) :
    Calls Tryz.prog 70 #[.int .i32 r] w fun e w' => e = .returned (.bool (r == 32 || r == 9)) ∧ w = w' := by
  by_cases h1 : r = 32
  · subst h1
    go_enter Tryz.func70, Tryz.ntmps70
    go_wp2
    go_ret
    exact ⟨rfl, rfl⟩
  · have h1' : (r == 32) = false := beq_eq_false_iff_ne.2 h1
    have e : (r == 32 || r == 9) = (r == 9) := by rw [h1', Bool.false_or]
    rw [e]
    clear e h1
    go_enter Tryz.func70, Tryz.ntmps70
    go_wp2
    go_ret
    exact ⟨rfl, rfl⟩

set_option maxRecDepth 100000 in
set_option maxHeartbeats 1000000 in
theorem Tryz.Blank_calls (s : ByteArray) (a b c : Nat) (w : World) (hab : a ≤ b) (hbl : b ≤ s.size) :
    Calls Tryz.prog 48 #[.string s, .agg #[.int .i64 (a : Nat), .int .i64 (b : Nat), .int .i64 (c : Nat)]] w fun e w' => e = .returned (.bool (blankL (cutL s.data.toList a b))) ∧ Below w.heap.size w w' := by
  have g1 : decide ((a : Int) < 0) = false := decide_eq_false (by omega)
  have g2 : decide ((b : Int) < (a : Int)) = false := decide_eq_false (by omega)
  have g3 : decide ((s.size : Int) < (b : Int)) = false := decide_eq_false (by omega)
  have g4 : decide (b < a) = false := decide_eq_false (by omega)
  have g5 : decide (s.size < b) = false := decide_eq_false (by omega)
  have hn := fun (wr : World) (pos : Nat) (ty : TypeId) hk h => Lib.run_next_any_at (P := Tryz.prog) wr (w.heap.size + 1) (s.extract a b) pos ty hk h
  have he := fun (wr : World) (pos : Nat) (ty : TypeId) hk h => Lib.run_next_end_at (P := Tryz.prog) wr (w.heap.size + 1) (s.extract a b) pos ty hk h
  go_enter Tryz.func48, Tryz.ntmps48
  go_wp2
  go_loopw [6] (fun _ wr => ∃ pos : Nat, wr.heap[w.heap.size + 1]? = some (.stringIter (s.extract a b) pos) ∧ pos ≤ (s.extract a b).size ∧ Below w.heap.size w wr ∧ blankL (cutL s.data.toList a b) = blankL ((s.extract a b).data.toList.drop pos))
    (fun _ wr => (s.extract a b).size - wr.iterPos (w.heap.size + 1))
  case atStart =>
    refine ⟨0, ?_, Nat.zero_le _, ((Below.refl _ w).alloc (Nat.le_refl _) _).alloc (by simp) _, by rw [extract_list]; rfl⟩
    have := World.alloc_heap_new (w.alloc (Obj.cells #[Value.int IntKind.i64 (a : Nat), Value.int IntKind.i64 (b : Nat), Value.int IntKind.i64 (c : Nat)] 41)) (.stringIter (s.extract a b) 0)
    rwa [World.size_alloc] at this
  case round =>
    obtain ⟨pos, hit, hpos, hB, hbk⟩ := hrel
    generalize s.extract a b = x at *
    by_cases hlt : pos < x.size
    · have hdec := blank_decode x pos hlt
      have hle := decode_le x pos
      have hn' := fun ty => hn wr pos ty hit hlt
      rw [blankL_drop _ _ _ (list_get x pos hlt)] at hbk
      have hit2 := fun p => Lib.iterAt_heap wr (w.heap.size + 1) x pos p hit
      obtain ⟨r, hr⟩ : ∃ r, r = (Utf8.decode x pos).1 := ⟨_, rfl⟩
      obtain ⟨wd, hw⟩ : ∃ wd, wd = (Utf8.decode x pos).2 := ⟨_, rfl⟩
      rw [← hr] at hdec hle hn'
      rw [← hw] at hdec hn'
      by_cases hb : r = 32 ∨ r = 9
      · obtain ⟨hd1, hd2⟩ := hdec.1 hb
        rw [hd1, Bool.true_and] at hbk
        rw [hd2] at hn'
        have hbb : (((r : Nat) : Int) == 32 || ((r : Nat) : Int) == 9) = true := by
          rcases hb with rfl | rfl <;> rfl
        have hit3 := hit2 (pos + 1)
        have hB2 := Lib.below_iterAt hB (show w.heap.size ≤ w.heap.size + 1 by omega) x (pos + 1)
        have Hb := Lib.hid hbk
        have HB := Lib.hid hbb
        clear hdec hn he hr hw hbk hb hd1 hd2 hit2 hbb
        go_wp2_with (go_at_call 70; refine (Tryz.curblank_calls _ _).mono ?_; rw [HB.out]; rintro e w' ⟨rfl, rfl⟩)
        go_roundw
        case rel => exact ⟨pos + 1, hit3, by omega, hB2, Hb.out⟩
        case measure => simp [World.iterPos, hit, hit3]; omega
      · have hd1 := hdec.2 ⟨fun e => hb (.inl e), fun e => hb (.inr e)⟩
        rw [hd1, Bool.false_and] at hbk
        have hbb : (((r : Nat) : Int) == 32 || ((r : Nat) : Int) == 9) = false := by
          rw [Bool.or_eq_false_iff]; constructor <;> (rw [beq_eq_false_iff_ne]; omega)
        have hB2 := fun p => Lib.below_iterAt hB (show w.heap.size ≤ w.heap.size + 1 by omega) x p
        have Hb := Lib.hid hbk
        have HB := Lib.hid hbb
        have HB2 := Lib.hid hB2
        clear hdec hn he hr hw hbk hb hd1 hbb hit2 hB2
        go_wp2_with (go_at_call 70; refine (Tryz.curblank_calls _ _).mono ?_; rw [HB.out]; rintro e w' ⟨rfl, rfl⟩)
        go_ret
        rw [Hb.out]
        exact ⟨rfl, HB2.out _⟩
    · have hpe : pos = x.data.toList.length := by simp; omega
      have he' := fun ty => he wr pos ty hit hlt
      rw [hpe, List.drop_length] at hbk
      have Hb := Lib.hid hbk
      clear hn he hbk hpe
      go_wp2
      go_ret
      rw [Hb.out]
      exact ⟨rfl, hB⟩
#print axioms Tryz.Blank_calls
end Go.Proofs
/- cursor.Rows of this program: the lines that are not blank. Conditions: a text of at most a million bytes. -/
namespace Go.Cur
def bare (l : List UInt8) (p : Nat × Nat × Nat) : Bool := !blankL (cutL l p.1 p.2.1)
def rowsOf (l : List UInt8) : List (Nat × Nat × Nat) := (lines l).filter (bare l)
theorem lines_get {l : List UInt8} {k a b c : Nat} (h : (lines l)[k]? = some (a, b, c)) : a ≤ b ∧ b ≤ l.length ∧ b ≤ c ∧ c ≤ l.length + 1 := by
  simp only [lines, List.getElem?_map, Option.map_eq_some_iff] at h
  obtain ⟨⟨x, y⟩, h1, h2⟩ := h
  have h3 : (x, y) ∈ spans l := (List.takeWhile_sublist _).subset (List.mem_of_getElem? h1)
  have h4 := spans_mem (Nat.le_refl 0) (x, y) h3
  simp only [lineAt] at h2
  simp only at h4
  split at h2
  · simp only [Prod.mk.injEq] at h2
    omega
  · split at h2 <;> (simp only [Prod.mk.injEq] at h2; omega)
theorem rows_step {l : List UInt8} {k : Nat} {p : Nat × Nat × Nat} (h : (lines l)[k]? = some p) : ((lines l).take (k + 1)).filter (bare l) = ((lines l).take k).filter (bare l) ++ if bare l p then [p] else [] := by
  obtain ⟨hk, rfl⟩ := List.getElem?_eq_some_iff.1 h
  rw [List.take_succ_eq_append_getElem hk, List.filter_append]
  cases hb : bare l (lines l)[k] <;> simp [hb]
end Go.Cur
namespace Go
open Go.RowKit
theorem ownsRow_own {X Y : World} {base : Nat} {e : TypeId} {size : Nat} {v : Value} {k : Nat} {xs : List Value} (h2 : X.ownsRow base e size v k xs) {row : Option Nat} (hg : X.grownBy Y row) {B' : Nat} (hr : ∀ r, row = some r → B' ≤ r ∧ ∃ o : Obj, X.heap[r]? = some o ∧ o.isCells = false) : Y.ownsRow base e size v k xs := by
  refine h2.kept hg ?_
  rcases h2.2 with ⟨rfl, _⟩ | ⟨g, cap, cur, rfl, _, hgb, _⟩
  · exact .inl rfl
  · refine .inr fun e' => ?_
    obtain ⟨_, o, ho, hc⟩ := hr g (by simpa [Value.ownBlock] using e'.symm)
    rw [hgb] at ho; cases ho; cases hc
end Go
namespace Go.Proofs
open Go.RowKit Go.Shelf Go.Cur
attribute [local go_sem] Oper.semAt_some

set_option maxRecDepth 100000 in
set_option maxHeartbeats 1000000 in
theorem Tryz.Rows_calls (s : ByteArray) (w : World) (hs : s.size ≤ 1000000) :
    Calls Tryz.prog 27 #[.string s] w fun e w' => ∃ v, e = .returned v ∧ w'.ownsRow w.heap.size 41 3 v (rowsOf s.data.toList).length (lineCells (rowsOf s.data.toList)) ∧ Below w.heap.size w w' := by
  obtain ⟨i0, hi, hz0, hz1, hz2⟩ := info_parts Tryz.info41
  have hfn : ∀ f, Fence.wide.fn f := fun _ => trivial
  have hdp : Fence.wide.depth = none := rfl
  refine (callsIn_wide (n := 0)).1 (callsIn_of_wp_marks Tryz.func27 rfl trivial ?_ rfl)
  simp only [Tryz.ntmps27, List.size_toArray, List.length_cons, List.length_nil, Nat.reduceAdd, Nat.reduceSub, Array.replicate_succ, Array.replicate_zero, List.push_toArray, List.append_toArray, List.nil_append, List.cons_append]
  gi_wp2_with (gi_at_call 47; refine (callsIn_wide.2 (Tryz.lines_calls _ _)).mono ?_; rintro e w' ⟨rfl, rfl⟩)
  obtain ⟨V, hV⟩ : ∃ V, V = ((w.alloc (.cells #[.string s] 9)).alloc (.cells #[.slice none 0 0] 36)).alloc (.cells #[.string s] 9) := ⟨_, rfl⟩
  have hVs : V.heap.size = w.heap.size + 1 + 1 + 1 := by rw [hV]; simp
  have b0 : Boxed V w.heap.size 9 (.string s) := by rw [hV]; exact ((Boxed.new w 9 _).alloc _).alloc _
  have b1 : Boxed V (w.heap.size + 1) 36 (.slice none 0 0) := by rw [hV]; exact (Boxed.at 36 _ (by simp)).alloc _
  have b2 : Boxed V (w.heap.size + 1 + 1) 9 (.string s) := by rw [hV]; exact Boxed.at 9 _ (by simp)
  have hB : Below w.heap.size w V := by rw [hV]; exact (((Below.refl _ w).alloc (Nat.le_refl _) _).alloc (by simp) _).alloc (by simp; omega) _
  rw [← hV]
  clear hV
  refine range_seq (gf := 67) (lb := #[.pointer (some ⟨w.heap.size + 1 + 1, 0, none⟩)]) rfl enters27 (Tryz.lines1_seq _ s V hs (by omega) b2) (Below.refl _ _) (fun k x h => by obtain ⟨p, _, rfl⟩ := map_get h; rfl)
    (fun k W => ∃ v, Boxed W w.heap.size 9 (.string s) ∧ Boxed W (w.heap.size + 1) 36 v ∧ W.ownsRow w.heap.size 41 3 v (((lines s.data.toList).take k).filter (bare s.data.toList)).length (lineCells (((lines s.data.toList).take k).filter (bare s.data.toList))) ∧ Below w.heap.size w W)
    (fun _ _ => False)
    (fun k X Y row h hg hr => by
      obtain ⟨v, h0, h1, h2, h4⟩ := h
      exact ⟨v, h0.own hg hr, h1.own hg hr, ownsRow_own h2 hg hr, h4.own (Nat.le_refl _) hg (by omega) hr⟩)
    (fun _ _ _ _ _ h _ _ => h.elim)
    ⟨_, b0, b1, by simpa [lineCells] using World.ownsRow_nil V w.heap.size 41 3, hB⟩
    (fun x a' W => ∃ a b c Bx, x = #[.agg #[.int .i64 (a : Nat), .int .i64 (b : Nat), .int .i64 (c : Nat)]] ∧ w.heap.size + 1 < Bx ∧ W.heap[Bx]? = some (.cells #[.int .i64 (a : Nat), .int .i64 (b : Nat), .int .i64 (c : Nat)] 41 (0, 0)) ∧
      a' = { tmps := #[.string s, .pointer (some ⟨w.heap.size, 0, none⟩), .slice none 0 0, .pointer (some ⟨w.heap.size + 1, 0, none⟩), .pointer (some ⟨Bx, 0, none⟩), .string s, .func (.func 67) #[] #[.pointer (some ⟨w.heap.size + 1 + 1, 0, none⟩)], x[0]!, undef, undef, undef, undef, undef, undef, undef, undef, undef], defers := [] })
    (fun x a' _ X Y row h hg hr => by
      obtain ⟨a, b, c, Bx, rfl, h1, h2, rfl⟩ := h
      refine ⟨a, b, c, Bx, rfl, h1, (hg.block Bx (Array.getElem?_eq_some_iff.1 h2).1 (fun e => ?_)).trans h2, rfl⟩
      obtain ⟨_, o, ho, hc⟩ := hr Bx e.symm
      rw [h2] at ho; cases ho; cases hc) ?assign ?body ?done ?stop
  case assign =>
    intro l k x W K hx hi hK
    obtain ⟨⟨a, b, c⟩, hp, rfl⟩ := map_get hx
    obtain ⟨v, h0, h1, h2, h4⟩ := hi
    clear hx
    simp only [lineV]
    gi_wp2
    exact hK _ _ ((RF.refl _).alloc _) ⟨v, h0.alloc _, h1.alloc _, h2.alloc _, h4.alloc h4.size _⟩ ⟨a, b, c, W.heap.size, rfl, h1.lt, World.alloc_heap_new W _, rfl⟩
  case body =>
    rintro l k x a' W hx0 ⟨v, h0, h1, h2, h4⟩ ⟨a, b, c, Bx, rfl, hBx, hbx, rfl⟩
    obtain ⟨⟨a1, b1, c1⟩, hp, he⟩ := map_get hx0
    have he' : a = a1 ∧ b = b1 ∧ c = c1 := by simpa [lineV, Int.natCast_inj] using he
    obtain ⟨rfl, rfl, rfl⟩ := he'
    clear he hx0
    have hcs := h0.cell
    have hcv := h1.cell
    have x0 : W.cell? ⟨Bx, 0, none⟩ = some (.int .i64 (a : Nat)) := by simp [World.cell?, hbx]
    have x1 : W.cell? ⟨Bx, 1, none⟩ = some (.int .i64 (b : Nat)) := by simp [World.cell?, hbx]
    have x2 : W.cell? ⟨Bx, 2, none⟩ = some (.int .i64 (c : Nat)) := by simp [World.cell?, hbx]
    obtain ⟨hab, hbl, _, _⟩ := lines_get hp
    have hbl' : b ≤ s.size := by simpa using hbl
    have hbxl : Bx < W.heap.size := (Array.getElem?_eq_some_iff.1 hbx).1
    have hsz : w.heap.size ≤ W.heap.size := h4.size
    have hstep := rows_step hp
    have hln := lines_len s
    have hlt : (((lines s.data.toList).take k).filter (bare s.data.toList)).length ≤ s.size + 1 := by
      have h1 := List.length_filter_le (bare s.data.toList) ((lines s.data.toList).take k)
      have h2 := List.length_take_le k (lines s.data.toList)
      have h3 : ((lines s.data.toList).take k).length ≤ (lines s.data.toList).length := by rw [List.length_take]; omega
      omega
    have hcall := fun w1 : World => Tryz.Blank_calls s a b c w1 hab hbl'
    cases hbk : blankL (cutL s.data.toList a b) with
    | true =>
      rw [hbk] at hcall
      have hbare : bare s.data.toList (a, b, c) = false := by simp [bare, hbk]
      rw [if_neg (by rw [hbare]; simp), List.append_nil] at hstep
      have HC := Lib.hid hcall
      have HS := Lib.hid hstep
      clear hcall hstep hbare hbk hp hlt hln hab hbl
      simp only [List.getElem!_toArray, List.getElem!_cons_zero]
      gi_wp2_with (gi_at_call 48; refine (CallsIn.inRound l (callsIn_wide.2 (HC.out _))).mono ?_; rintro e w1 ⟨rfl, hb1⟩)
      exact ⟨(RF.refl _).below hb1 (Nat.le_refl _), v, h0.below hb1 h0.lt, h1.below hb1 h1.lt, by rw [HS.out]; exact ownsRow_below h2 hb1 (Nat.le_refl _), h4.trans (hb1.mono hsz)⟩
    | false =>
      rw [hbk] at hcall
      have hbare : bare s.data.toList (a, b, c) = true := by simp [bare, hbk]
      rw [if_pos hbare] at hstep
      have HC := Lib.hid hcall
      have HS := Lib.hid hstep
      clear hcall hstep hbare hbk hp hln hab hbl
      generalize ((lines s.data.toList).take k).filter (bare s.data.toList) = q at *
      have hml : q.length + 1 ≤ maxLen := by unfold maxLen; omega
      have hml2 : (q.length + 1) * 24 ≤ 140737488355328 := by omega
      clear hlt
      simp only [List.getElem!_toArray, List.getElem!_cons_zero]
      gi_wp2_with (first | (gi_at_call 48; refine (CallsIn.inRound l (callsIn_wide.2 (HC.out _))).mono ?_; rintro e w1 ⟨rfl, hb1⟩; have y1 := h1.below hb1 h1.lt; have y2 := ownsRow_below h2 hb1 (Nat.le_refl _); have y4 := h4.trans (hb1.mono hsz); have ycv := y1.cell; have z0 := (hb1.cell (p := ⟨Bx, 0, none⟩) hbxl).trans x0; have z1 := (hb1.cell (p := ⟨Bx, 1, none⟩) hbxl).trans x1; have z2 := (hb1.cell (p := ⟨Bx, 2, none⟩) hbxl).trans x2) | (gi_at_builtin; refine wpListIn_append_own _ rfl _ _ 36 rfl w.heap.size 41 i0 (.agg #[.int .i64 0, .int .i64 0, .int .i64 0]) 3 24 Tryz.underlying36 hi hz0 hz1 hz2 rfl (by decide) _ _ _ rfl (y2.alloc _) ⟨w1.heap.size, 0, none⟩ 1 1 [.int .i64 (a : Nat), .int .i64 (b : Nat), .int .i64 (c : Nat)] rfl rfl (curcells_new w1 #[.int .i64 (a : Nat), .int .i64 (b : Nat), .int .i64 (c : Nat)] 41) (by simp [Value.oneCell']) hml hml2 (by have := y4.size; simp; omega) ?_; intro v' w2 hown' hgrow _; obtain ⟨g', cap', rfl⟩ := ownsRow_succ hown'; obtain ⟨hv1, hv2, hr2, hk2, hb2⟩ := y1.appended (by decide) y2 y4.size (by omega) hown' hgrow; have hrf := RF.appended (T := stillT) (B0 := V.heap.size) (v' := .slice (some ⟨g', 0, none⟩) (q.length + 1) cap') y2 rfl (fun _ => rfl) hgrow hv1; have hc1 := hv1.cell; have hf1 := hv1.frozen))
      have hrf2 := ((RF.refl W).below hb1 (Nat.le_refl _)).trans hrf
      exact ⟨hrf2, _, hrf2.boxed h0 rfl, hv2, by rw [HS.out, lineCells_snoc, List.length_append]; exact hr2, y4.trans hb2⟩
  case done =>
    rintro D W hD ⟨v, h0, h1, h2, h4⟩ hK
    have hcv := h1.cell
    rw [linesV, List.length_map, List.take_length] at h2
    have H2 := Lib.hid h2
    clear h2
    gi_wp2
    refine ⟨by simp, .inl ⟨_, _, rfl, run_takeDeferred hK, ?_⟩⟩
    exact ⟨_, results_tmp rfl _ _ _, v, rfl, ownsRow_putObj H2.out _ hK rfl, h4.put (Nat.le_refl _) (by omega)⟩
  case stop => exact fun _ _ _ _ h _ => h.elim
#print axioms Tryz.Rows_calls
end Go.Proofs
