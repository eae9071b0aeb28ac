/- The document's own Key of (any) this program, as a contract. Conditions: a text of at most two million bytes. -/
import Derived.Test.YtlgdhopiifoikaaRKeyAlone
namespace Go.Proofs
open Go.RowKit Go.Shelf Go.Wds
set_option maxRecDepth 100000 in
set_option maxHeartbeats 4000000 in
theorem Try.rKey_both (s : ByteArray) (a b : Nat) (w : World) (hs : s.size ≤ 2000000) (hab : a ≤ b) (hb : b ≤ s.size) (hik : isKey (keyPart s a b) = true) (hcol : seekL colB s.data.toList a b < b) :
    Calls Try.prog 18 #[.string s, .int .i64 (a : Int), .int .i64 (b : Int)] w fun e w' => e = .returned (keyV (keyPart s a b) (trimL s.data.toList (seekL colB s.data.toList a b + 1) b).1 (trimL s.data.toList (seekL colB s.data.toList a b + 1) b).2 true) ∧ Below w.heap.size w w' := by
  have hown := fun w1 (h : Below (w.alloc (.cells #[.int .i64 0, .int .i64 0] 33)).heap.size (w.alloc (.cells #[.int .i64 0, .int .i64 0] 33)) w1) => pair_own h
  have HO := Lib.hid hown
  clear hown
  have hc := Lib.hid fun w => Try.places_calls s (a : Int) (b : Int) w
  rw [inB_nat hab hb] at hc
  have hcb : seekL colB s.data.toList a b ≤ b := seek_le hab
  have hca : a ≤ seekL colB s.data.toList a b := seek_ge _ _ _ _
  obtain ⟨hF1, hF2, hF3, _⟩ := is_trim (l := s.data.toList) hca (by simp; omega)
  have C2 := Lib.hid fun W => Try.rtrim_calls s a (seekL colB s.data.toList a b) W hca (by omega) hs
  have C3 := Lib.hid fun W => Try.rtextN s (trimL s.data.toList a (seekL colB s.data.toList a b)).1 (trimL s.data.toList a (seekL colB s.data.toList a b)).2 W hF2 (by omega)
  have hks : (keyPart s a b).size ≤ 2000000 := by unfold keyPart; rw [extract_size' s hF2 (by omega)]; omega
  have C5 := Lib.hid fun W => Try.rtrim_calls s (seekL colB s.data.toList a b + 1) b W hcol hb hs
  have it2 := is_trim (l := s.data.toList) (a := seekL colB s.data.toList a b + 1) (b := b) hcol (by simp; omega)
  obtain ⟨⟨F2, T2⟩, hFT2⟩ : ∃ FT, trimL s.data.toList (seekL colB s.data.toList a b + 1) b = FT := ⟨_, rfl⟩
  rw [hFT2] at C5 it2 ⊢
  simp only at C5 it2 ⊢
  have IT2 := Lib.hid (show F2 ≤ T2 ∧ T2 ≤ b ∧ (F2 = T2 → F2 = b) from ⟨it2.2.1, it2.2.2.1, it2.2.2.2.2.2.1⟩)
  obtain ⟨⟨F, T⟩, hFT⟩ : ∃ FT, trimL s.data.toList a (seekL colB s.data.toList a b) = FT := ⟨_, rfl⟩
  have hK : s.extract F T = keyPart s a b := by unfold keyPart; rw [hFT]
  rw [hFT] at C2 C3
  simp only at C2 C3
  rw [hK] at C3
  obtain ⟨K, hK2⟩ : ∃ K, keyPart s a b = K := ⟨_, rfl⟩
  rw [hK2] at C3 hks hik
  try rw [hK2]
  rw [isKey_eq] at hik
  have HIK := Lib.hid hik
  obtain ⟨c, hcc⟩ : ∃ c, seekL colB s.data.toList a b = c := ⟨_, rfl⟩
  rw [hcc] at C5 hcol
  have HC := Lib.hid hcol
  have C6 : Hid (∀ W, Calls Try.prog 35 #[.string s, .agg #[.int .i64 ((c : Int) + 1), .int .i64 (b : Int)]] W fun e w' => e = .returned (.agg #[.int .i64 (F2 : Nat), .int .i64 (T2 : Nat)]) ∧ Below W.heap.size W w') := C5
  clear C5 it2 hFT2 hcol
  rw [hcc] at C2 hcb hca
  have HCC := Lib.hid hcc
  have HKL := Lib.hid (show K.data.toList.length = K.size by simp)
  clear hcc hFT hK hK2 hF1 hF2 hF3 hik
  go_enter Try.func18, Try.ntmps18
  go_wp2_with (go_at_call 29; (with_reducible refine (hc.out _).mono ?_); rintro e w1 ⟨rfl, hw1⟩; subst hw1)
  go_loop [9] (fun v => ∃ k : Nat, v = .int .i64 (k : Int) ∧ a ≤ k ∧ k ≤ b ∧ ∀ j x, a ≤ j → j < k → s.data.toList[j]? = some x → colB x = false) (fun v => b - (intOf v).toNat)
  case atStart => exact ⟨a, rfl, Nat.le_refl _, hab, fun j x h1 h2 => by omega⟩
  case round =>
    obtain ⟨k, rfl, hak, hkb, hno⟩ := hrel
    by_cases hlt : k < b
    · have hks2 : k < s.size := by omega
      by_cases h58 : (s[k]'hks2) = 58
      · have hkc : k = c := by rw [← HCC.out]; exact (seek_eq hak hkb hno (fun _ => ⟨_, list_get s k hks2, by unfold colB; rw [h58]; rfl⟩)).symm
        have d1 : (((s[k]'hks2).toNat : Int) != 58) = false := by rw [h58]; rfl
        clear hno h58
        have hkc2 : c = k := hkc.symm
        clear hkc
        subst hkc2
        go_wp2_with (fail)
        refine (C2.out _).mono ?_
        rintro e w2 ⟨rfl, hb2⟩
        go_wp2_with (fail)
        refine (C3.out _).mono ?_
        rintro e w3 ⟨rfl, hb3⟩
        have B3 := hb2.trans (hb3.mono hb2.size)
        clear hb2 hb3 C2 C3 d1
        obtain ⟨r0, r1, f0, f1, hz⟩ := HO.out _ B3
        have hB : Below w.heap.size w w3 := ((Below.refl _ _).alloc (Nat.le_refl _) _).trans (B3.mono (by simp))
        clear B3
        have hsz := HIK.out
        rw [Bool.and_eq_true, Bool.and_eq_true, decide_eq_true_iff, decide_eq_true_iff] at hsz
        obtain ⟨⟨hs1, hs40⟩, hall⟩ := hsz
        have e1 := not_empty K (by omega)
        have e2 : ¬ K.toList = [] := fun h => by rw [h] at e1; cases e1
        have d40 : decide ((40 : Int) < (K.size : Int)) = false := decide_eq_false (by omega)
        have HALL := Lib.hid (fun x hx => (List.all_eq_true.1 (show K.data.toList.all (ofB keyP) = true from hall)) x hx)
        clear HIK hall hs1 hs40
        go_wp2
        clear e1 e2 d40
        go_loop [11] (fun v => ∃ m : Nat, v = .int .i64 (m : Int) ∧ m ≤ K.size) (fun v => K.size - (intOf v).toNat)
        case atStart => exact ⟨0, rfl, Nat.zero_le _⟩
        case round =>
          obtain ⟨m, rfl, hm⟩ := hrel
          by_cases hltm : m < K.size
          · have hqc : keyP (K[m]'hltm).toNat = true := HALL.out _ (List.mem_of_getElem? (list_get K m hltm))
            rw [keyP_eq, decide_eq_true_iff] at hqc
            have hparts : ((48 ≤ (K[m]'hltm).toNat ∧ (K[m]'hltm).toNat ≤ 57) ∨ (65 ≤ (K[m]'hltm).toNat ∧ (K[m]'hltm).toNat ≤ 90) ∨ (K[m]'hltm).toNat = 95) := by omega
            clear hqc
            rcases hparts with hp | hp | hp
            all_goals
              first | have d1 : decide ((((K[m]'hltm).toNat : Nat) : Int) < 65) = true := decide_eq_true (by omega) | have d1 : decide ((((K[m]'hltm).toNat : Nat) : Int) < 65) = false := decide_eq_false (by omega)
              first | have d2 : decide ((90 : Int) < (((K[m]'hltm).toNat : Nat) : Int)) = true := decide_eq_true (by omega) | have d2 : decide ((90 : Int) < (((K[m]'hltm).toNat : Nat) : Int)) = false := decide_eq_false (by omega)
              first | have d3 : decide ((((K[m]'hltm).toNat : Nat) : Int) < 48) = true := decide_eq_true (by omega) | have d3 : decide ((((K[m]'hltm).toNat : Nat) : Int) < 48) = false := decide_eq_false (by omega)
              first | have d4 : decide ((57 : Int) < (((K[m]'hltm).toNat : Nat) : Int)) = true := decide_eq_true (by omega) | have d4 : decide ((57 : Int) < (((K[m]'hltm).toNat : Nat) : Int)) = false := decide_eq_false (by omega)
              first | have d5 : ((((K[m]'hltm).toNat : Nat) : Int) != 95) = true := bne_iff_ne.2 (by omega) | have d5 : ((((K[m]'hltm).toNat : Nat) : Int) != 95) = false := bne_eq_false_iff_eq.2 (by omega)
              clear hp
              go_wp2
              go_round
              case rel => exact ⟨m + 1, by go_num, by omega⟩
              case measure => simp [intOf]; omega
          · clear HALL HKL hks
            have d1 : decide (c < b) = true := decide_eq_true HC.out
            have d2 : decide ((c : Int) < (b : Int)) = true := decide_eq_true (by have := HC.out; omega)
            go_wp2_with (fail)
            clear d1 d2
            obtain ⟨V, hV⟩ : ∃ V, V = w3.alloc (.cells #[.int .i64 (b : Int), .int .i64 (b : Int)] 33) := ⟨_, rfl⟩
            rw [← hV]
            have hkV : Below w3.heap.size w3 V := by rw [hV]; exact (Below.refl _ _).alloc (Nat.le_refl _) _
            have hBV : Below w.heap.size w V := hB.trans (hkV.mono hB.size)
            have hT : Two V w3.heap.size (.int .i64 (b : Int)) (.int .i64 (b : Int)) := by rw [hV]; exact Two.new _ _ _ _
            have hR : Two V w.heap.size (.int .i64 0) (.int .i64 0) := (show Two w3 w.heap.size (.int .i64 0) (.int .i64 0) from ⟨r0, r1, f0, f1⟩).later hkV hz
            have hVz : w3.heap.size < V.heap.size := by rw [hV]; simp
            clear hV r0 r1 f0 f1 hkV
            refine (C6.out V).mono ?_
            rintro e w4 ⟨rfl, hb4⟩
            have hT4 := hT.later hb4 hVz
            have hR4 := hR.later hb4 (by omega)
            have hB4 := hBV.trans (hb4.mono hBV.size)
            have hz4 : w3.heap.size < w4.heap.size := Nat.lt_of_lt_of_le hVz hb4.size
            have hz5 : w.heap.size < w4.heap.size := by omega
            clear hT hR hBV hVz hb4 C6
            have kA : Below w4.heap.size w4 (w4.alloc (.cells #[.int .i64 (F2 : Int), .int .i64 (T2 : Int)] 33)) := (Below.refl _ _).alloc (Nat.le_refl _) _
            have hR5 := Lib.hid (hR4.later kA hz5)
            have hT5 := Lib.hid (hT4.later kA hz4)
            have hB5 := Lib.hid (hB4.trans (kA.mono hB4.size))
            clear kA
            by_cases hlt2 : F2 < T2
            · have d3 : decide (F2 < T2) = true := decide_eq_true hlt2
              have hne : w3.heap.size ≠ w.heap.size := by omega
              have hT6 := (hT4.set0 (.int .i64 (F2 : Int))).set1 (.int .i64 (T2 : Int))
              have hR6 := (hR4.far (j := 0) hne (.int .i64 (F2 : Int))).far (j := 1) hne (.int .i64 (T2 : Int))
              have hB6 := (hB4.setCell (p := ⟨w3.heap.size, 0, none⟩) (by simp; omega) (.int .i64 (F2 : Int))).setCell (p := ⟨w3.heap.size, 1, none⟩) (by simp; omega) (.int .i64 (T2 : Int))
              have hz6 : ((w4.setCell ⟨w3.heap.size, 0, none⟩ (.int .i64 (F2 : Int))).setCell ⟨w3.heap.size, 1, none⟩ (.int .i64 (T2 : Int))).heap.size = w4.heap.size := by simp
              have hT7 := Lib.hid hT6
              have hR7 := Lib.hid hR6
              have hB7 := Lib.hid hB6
              have hz7 := Lib.hid hz6
              clear hT6 hR6 hB6 hz6
              obtain ⟨x0, x1, y0, y1⟩ := hT4
              clear hR4 hlt2
              go_wp2
              obtain ⟨W5, hW5⟩ : ∃ W5, (w4.setCell ⟨w3.heap.size, 0, none⟩ (.int .i64 (F2 : Int))).setCell ⟨w3.heap.size, 1, none⟩ (.int .i64 (T2 : Int)) = W5 := ⟨_, rfl⟩
              rw [hW5] at hT7 hR7 hB7 hz7 ⊢
              have hkA : Below W5.heap.size W5 (W5.alloc (.cells #[.int .i64 (F2 : Int), .int .i64 (T2 : Int)] 33)) := (Below.refl _ _).alloc (Nat.le_refl _) _
              have hT6 := hT7.out.later hkA (by have := hz7.out; omega)
              have hR6 := hR7.out.later hkA (by have := hz7.out; omega)
              have hB6 := hB7.out.trans (hkA.mono hB7.out.size)
              obtain ⟨V2, hV2⟩ : ∃ V2, W5.alloc (.cells #[.int .i64 (F2 : Int), .int .i64 (T2 : Int)] 33) = V2 := ⟨_, rfl⟩
              rw [hV2] at hT6 hR6 hB6 ⊢
              clear hW5 hkA hT7 hR7 hB7 hz7
              clear hV2 x0 x1 y0 y1 hR5 hT5 hB5 hz4 hz5 hB4 hne
              obtain ⟨x0, x1, _, _⟩ := hT6
              obtain ⟨r0, r1, f0, f1⟩ := hR6
              go_region
              go_wp2
              refine bodyPost_ret (v := keyV K F2 T2 true) (by simp [results, Try.results18, go_sem, keyV, r0, r1]) rfl ⟨rfl, ?_⟩
              exact (hB6.drew.setCell (by simp) _).setCell (by simp) _
            · have d3 : decide (F2 < T2) = false := decide_eq_false hlt2
              obtain ⟨e3, e4⟩ : F2 = b ∧ T2 = b := by
                obtain ⟨i1, i2, i3⟩ := IT2.out
                have := i3 (by omega)
                omega
              have HE := Lib.hid (show keyV K F2 T2 true = keyV K b b true by rw [e3, e4])
              obtain ⟨x0, x1, y0, y1⟩ := hT4
              clear hR4 hlt2 e3 e4
              go_wp2
              obtain ⟨V2, hV2⟩ : ∃ V2, V2 = w4.alloc (.cells #[.int .i64 (F2 : Int), .int .i64 (T2 : Int)] 33) := ⟨_, rfl⟩
              rw [← hV2]
              rw [← hV2] at hT5 hR5 hB5
              have hT6 := hT5.out
              have hR6 := hR5.out
              have hB6 := hB5.out
              clear hV2 x0 x1 y0 y1 hR5 hT5 hB5 hz4 hz5 hB4
              obtain ⟨x0, x1, _, _⟩ := hT6
              obtain ⟨r0, r1, f0, f1⟩ := hR6
              go_region
              go_wp2
              refine bodyPost_ret (v := keyV K b b true) (by simp [results, Try.results18, go_sem, keyV, r0, r1]) rfl ⟨by rw [HE.out], ?_⟩
              exact (hB6.drew.setCell (by simp) _).setCell (by simp) _
      · have HN := Lib.hid (col_step hlt hak hno hks2 h58)
        have d1 : (((s[k]'hks2).toNat : Int) != 58) = true := by
          rw [bne_iff_ne]
          intro e
          exact h58 (UInt8.toNat_inj.1 (by have e' : (s[k]'hks2).toNat = 58 := by omega
                                           exact e'))
        clear hno h58
        go_wp2
        go_round
        case rel => exact ⟨k + 1, by go_num, by omega, by omega, HN.out⟩
        case measure => simp [intOf]; omega
    · have hkc : k = c := by rw [← HCC.out]; exact (seek_eq hak hkb hno (fun h => absurd h hlt)).symm
      clear hno
      exact absurd HC.out (by omega)

theorem Try.rKey_calls (s : ByteArray) (a b : Int) (k : ByteArray) (i j : Nat) (t : Bool) (w : World) (hs : s.size ≤ 2000000) (hk : KeyIs s a b k i j t) :
    Calls Try.prog 18 #[.string s, .int .i64 a, .int .i64 b] w fun e w' => e = .returned (keyV k i j t) ∧ Below w.heap.size w w' := by
  cases hk with
  | out _ _ h => exact Try.rKey_out s a b w h
  | none x y h1 h2 h3 => exact Try.rKey_none s x y w hs h1 h2 h3
  | alone x y h1 h2 h3 h4 => exact Try.rKey_alone s _ _ w hs h1 h2 h3 h4
  | both x y h1 h2 h3 h4 => exact Try.rKey_both s x y w hs h1 h2 h3 h4
#print axioms Try.rKey_calls
end Go.Proofs
