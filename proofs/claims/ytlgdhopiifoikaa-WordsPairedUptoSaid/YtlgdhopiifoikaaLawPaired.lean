/- The law WordsPaired of this program, as a contract. Conditions: a key of at most two million bytes. -/
import Derived.Test.YtlgdhopiifoikaaShown
import Derived.Test.YtlgdhopiifoikaaRFields
import Derived.Test.YtlgdhopiifoikaaPairPlain
namespace Go.Wds
theorem key_good {s k : ByteArray} {a b : Int} {i j : Nat} (h : KeyIs s a b k i j true) : isKey k = true := by
  cases h with
  | alone x y h1 h2 h3 h4 => exact h3
  | both x y h1 h2 h3 h4 => exact h3
end Go.Wds
namespace Go.Proofs
open Go.RowKit Go.Shelf Go.Wds

theorem bl4 {a b c : World} (h : Below a.heap.size a b) (k : Below b.heap.size b c) : Below a.heap.size a c := h.trans (k.mono h.size)
theorem not_empty3 (s : ByteArray) (h0 : ¬ s.size = 0) : s.toList.isEmpty = false := by
  rw [Lib.toList_data]
  cases h : s.data.toList with
  | nil => have : s.data.toList.length = s.size := Array.length_toList; rw [h] at this; simp at this; omega
  | cons a r => rfl
theorem toList_ne {a b : ByteArray} (h : ¬ a = b) : ¬ a.toList = b.toList := fun e => by
  rw [Lib.toList_data, Lib.toList_data] at e
  exact h (bytes_ext e)

set_option maxRecDepth 100000 in
set_option maxHeartbeats 4000000 in
theorem Try.Paired_none (key value : ByteArray) (bn : Nat) (w : World) (hks : key.size ≤ 2000000) (k : ByteArray) (i j : Nat) (hk : KeyIs key 0 (key.size : Int) k i j false) :
    Calls Try.prog 8 #[.string key, .string value, .int .u8 (bn : Int)] w fun e w' => e = .returned (.bool true) ∧ Below w.heap.size w w' := by
  have C1 : Hid (∀ W, Calls Try.prog 17 #[.string key, .int .i64 0, .int .i64 (key.size : Int)] W fun e w' => e = .returned (.tuple #[.string k, .agg #[.int .i64 (i : Int), .int .i64 (j : Int)], .bool false]) ∧ Below W.heap.size W w') := fun W => Try.Key_calls key 0 (key.size : Int) k i j false W hks hk
  clear hk
  go_enter Try.func8, Try.ntmps8
  go_wp2_with (fail)
  refine (C1.out _).mono ?_
  rintro e w1 ⟨rfl, hb1⟩
  go_wp2_with (go_at_call 10; refine (Try.shown_calls _).mono ?_; rintro e w2 ⟨rfl, hb2⟩)
  go_ret
  exact ⟨rfl, (hb1.alloc hb1.size _).trans (hb2.mono (by have := hb1.size; simp; omega))⟩

set_option maxRecDepth 100000 in
set_option maxHeartbeats 4000000 in
theorem Try.Paired_other (key value : ByteArray) (bn : Nat) (w : World) (hks : key.size ≤ 2000000) (k : ByteArray) (i j : Nat) (hk : KeyIs key 0 (key.size : Int) k i j true) (hne : ¬ k = key) :
    Calls Try.prog 8 #[.string key, .string value, .int .u8 (bn : Int)] w fun e w' => e = .returned (.bool true) ∧ Below w.heap.size w w' := by
  have C1 : Hid (∀ W, Calls Try.prog 17 #[.string key, .int .i64 0, .int .i64 (key.size : Int)] W fun e w' => e = .returned (.tuple #[.string k, .agg #[.int .i64 (i : Int), .int .i64 (j : Int)], .bool true]) ∧ Below W.heap.size W w') := fun W => Try.Key_calls key 0 (key.size : Int) k i j true W hks hk
  clear hk
  have hne2 := toList_ne hne
  clear hne
  go_enter Try.func8, Try.ntmps8
  go_wp2_with (fail)
  refine (C1.out _).mono ?_
  rintro e w1 ⟨rfl, hb1⟩
  go_wp2_with (go_at_call 10; refine (Try.shown_calls _).mono ?_; rintro e w2 ⟨rfl, hb2⟩)
  go_ret
  exact ⟨rfl, (hb1.alloc hb1.size _).trans (hb2.mono (by have := hb1.size; simp; omega))⟩

set_option maxRecDepth 100000 in
set_option maxHeartbeats 4000000 in
theorem Try.Paired_long (key value : ByteArray) (bn : Nat) (w : World) (hks : key.size ≤ 2000000) (i j : Nat) (hk : KeyIs key 0 (key.size : Int) key i j true) (hlong : 200 < value.size) :
    Calls Try.prog 8 #[.string key, .string value, .int .u8 (bn : Int)] w fun e w' => e = .returned (.bool true) ∧ Below w.heap.size w w' := by
  have C1 : Hid (∀ W, Calls Try.prog 17 #[.string key, .int .i64 0, .int .i64 (key.size : Int)] W fun e w' => e = .returned (.tuple #[.string key, .agg #[.int .i64 (i : Int), .int .i64 (j : Int)], .bool true]) ∧ Below W.heap.size W w') := fun W => Try.Key_calls key 0 (key.size : Int) key i j true W hks hk
  clear hk
  have d2 : decide ((200 : Int) < (value.size : Int)) = true := decide_eq_true (by omega)
  go_enter Try.func8, Try.ntmps8
  go_wp2_with (fail)
  refine (C1.out _).mono ?_
  rintro e w1 ⟨rfl, hb1⟩
  go_wp2_with (go_at_call 10; refine (Try.shown_calls _).mono ?_; rintro e w2 ⟨rfl, hb2⟩)
  go_ret
  exact ⟨rfl, (hb1.alloc hb1.size _).trans (hb2.mono (by have := hb1.size; simp; omega))⟩

set_option maxRecDepth 100000 in
set_option maxHeartbeats 4000000 in
theorem Try.Paired_short (key value : ByteArray) (bn : Nat) (w : World) (hks : key.size ≤ 2000000) (hbn : bn ≤ 255) (i j : Nat) (hk : KeyIs key 0 (key.size : Int) key i j true) (hshort : value.size ≤ 200) :
    Calls Try.prog 8 #[.string key, .string value, .int .u8 (bn : Int)] w fun e w' => e = .returned (.bool true) ∧ Below w.heap.size w w' := by
  have d2 : decide ((200 : Int) < (value.size : Int)) = false := decide_eq_false (by omega)
  have C2 : Hid (∀ W, Calls Try.prog 14 #[.string value, .int .i64 0, .int .i64 (value.size : Int)] W fun e w' => ∃ v, e = .returned v ∧ HasWords w' v (fieldsI value 0 (value.size : Int)) ∧ Below W.heap.size W w') := fun W => Try.rFields_calls value 0 (value.size : Int) W (by omega)
  have hfi : fieldsI value 0 (value.size : Int) = wordsL value.data.toList 0 value.size := fieldsI_nat (s := value) (a := 0) (b := value.size) (Nat.zero_le _) (Nat.le_refl _)
  rw [hfi] at C2
  have hpl := words_len value.data.toList 0 value.size
  have h0 := fun h => trimL_nil (l := value.data.toList) (a := 0) (b := value.size) h
  have h1 := fun h => trimL_some (l := value.data.toList) (a := 0) (b := value.size) h
  have hvl : value.data.toList.length = value.size := by simp
  have hbare : trimL value.data.toList 0 value.size = (0, value.size) → Bare value.data.toList := fun h => bare_of (by rw [hvl]; exact h)
  obtain ⟨⟨F, T⟩, hFT⟩ : ∃ FT, trimL value.data.toList 0 value.size = FT := ⟨_, rfl⟩
  rw [hFT] at h0 h1 hbare
  obtain ⟨ps, hps⟩ : ∃ ps, wordsL value.data.toList 0 value.size = ps := ⟨_, rfl⟩
  rw [hps] at C2 h0 h1 hpl
  have H0 := Lib.hid h0
  have H1 := Lib.hid h1
  have HBR := Lib.hid hbare
  have HVL := Lib.hid hvl
  have hik := Lib.hid (key_good hk)
  have hk40 : key.size ≤ 40 := (key_byte (key_good hk)).2.1
  have C1 : Hid (∀ W, Calls Try.prog 17 #[.string key, .int .i64 0, .int .i64 (key.size : Int)] W fun e w' => e = .returned (.tuple #[.string key, .agg #[.int .i64 (i : Int), .int .i64 (j : Int)], .bool true]) ∧ Below W.heap.size W w') := fun W => Try.Key_calls key 0 (key.size : Int) key i j true W hks hk
  clear h0 h1 hbare hvl hFT hps hfi hk
  obtain ⟨G, hG⟩ : ∃ G, bn % 4 = G := ⟨_, rfl⟩
  have hG4 : G < 4 := by omega
  have hG1 : (bn : Int) % 4 = (G : Int) := by omega
  have hG2 : (bn : Int).tmod 4 = (G : Int) := by rw [Int.tmod_eq_emod_of_nonneg (by omega)]; exact hG1
  clear hG
  go_enter Try.func8, Try.ntmps8
  go_wp2_with (fail)
  refine (C1.out _).mono ?_
  rintro e w1 ⟨rfl, hb1⟩
  go_wp2_with (go_at_call 10; refine (Try.shown_calls _).mono ?_; rintro e w2 ⟨rfl, hb2⟩)
  have B2 : Below w.heap.size w w2 := (hb1.alloc hb1.size _).trans (hb2.mono (by have := hb1.size; simp; omega))
  clear hb1 hb2 C1
  refine (C2.out _).mono ?_
  rintro e w3 ⟨v, rfl, hv, hb3⟩
  have B3 := bl4 B2 hb3
  clear B2 hb3 C2
  rcases hv.split with ⟨hn, ao, cap, rfl⟩ | ⟨hpos, g, cap, rfl, hg⟩
  · by_cases hv0 : value.size = 0
    · have hve : value = ⟨#[]⟩ := by
        cases value with
        | mk d => exact congrArg ByteArray.mk (Array.eq_empty_of_size_eq_zero hv0)
      have hB : Bare value.data.toList := by subst hve; exact ⟨fun x hx => by simp at hx, fun x hx => by simp at hx⟩
      have e1 : value.toList = [] := by rw [Lib.toList_data]; subst hve; rfl
      have e2 : value.toList.isEmpty = true := by rw [e1]; rfl
      obtain ⟨i2, j2, hK2, hij, hjs, hext⟩ := pair_both hik.out hB G
      have hSs : (pairS key value G).size ≤ 2000000 := by
        unfold pairS
        simp only [ByteArray.size_append, gap_size]
        show G + key.size + G + 1 + G + value.size + G ≤ _
        omega
      have C5 : Hid (∀ W (n : Int), n = ((pairS key value G).size : Int) → Calls Try.prog 17 #[.string (pairS key value G), .int .i64 0, .int .i64 n] W fun e w' => e = .returned (.tuple #[.string key, .agg #[.int .i64 (i2 : Int), .int .i64 (j2 : Int)], .bool true]) ∧ Below W.heap.size W w') := fun W n hn => by
        subst hn; exact Try.Key_calls _ _ _ _ _ _ _ W hSs hK2
      have C6 : Hid (∀ W, Calls Try.prog 15 #[.string (pairS key value G), .agg #[.int .i64 (i2 : Int), .int .i64 (j2 : Int)]] W fun e w' => e = .returned (.string value) ∧ Below W.heap.size W w') := fun W => by
        have := Try.textN (pairS key value G) i2 j2 W hij hjs
        rwa [hext] at this
      have hS2 : ((key ++ gapS G).size : Int) = (key.size : Int) + ((gapS G).size : Int) := by rw [ByteArray.size_append]; omega
      have C7 : Hid (∀ W, Calls Try.prog 17 #[.string (key ++ gapS G), .int .i64 0, .int .i64 ((key.size : Int) + ((gapS G).size : Int))] W fun e w' => e = .returned (.tuple #[.string key, .agg #[.int .i64 ((key.size : Int) + ((gapS G).size : Int)), .int .i64 ((key.size : Int) + ((gapS G).size : Int))], .bool true]) ∧ Below W.heap.size W w') := fun W => by
        have := Try.Key_calls _ _ _ _ _ _ _ W (by rw [ByteArray.size_append, gap_size]; omega) (pair_alone hik.out G)
        unfold keyV at this
        rw [hS2] at this
        exact this
      unfold pairS at C5 C6
      clear hK2 hij hjs hext hSs hS2 hB
      clear hv hn H0 H1 HBR hve hv0
      go_wp2
      clear e1 e2
      go_loop [11, 12] (fun gv iv => ∃ m : Nat, m ≤ G ∧ iv = .int .i64 (m : Int) ∧ gv = .string (gapS m)) (fun _ iv => G - (intOf iv).toNat)
      case atStart => exact ⟨0, Nat.zero_le _, rfl, rfl⟩
      case round =>
        obtain ⟨m, hm, rfl, rfl⟩ := hrel
        have hgs : (gapS m).size ≤ 4 := by rw [gap_size]; omega
        by_cases hlt : m < G
        · have HGS := Lib.hid (gap_step m)
          have dm : decide (m < G) = true := decide_eq_true hlt
          have dm2 : decide ((m : Int) < (G : Int)) = true := decide_eq_true (by omega)
          go_wp2
          go_round
          case rel => exact ⟨m + 1, by omega, by go_num, by rw [HGS.out]⟩
          case measure => simp [intOf]; omega
        · have dm : decide (m < G) = false := decide_eq_false hlt
          have dm2 : decide ((m : Int) < (G : Int)) = false := decide_eq_false (by omega)
          have hmG : m = G := by omega
          obtain ⟨GS, hGS⟩ : ∃ GS, gapS G = GS := ⟨_, rfl⟩
          rw [hmG, hGS] at hgs
          have HMG := Lib.hid hmG
          clear hmG hlt
          rw [show gapS m = GS by rw [HMG.out]; exact hGS]
          rw [hGS] at C5 C6 C7
          clear hGS
          have hv200 : value.size ≤ 200 := hshort
          go_wp2_with (fail)
          refine (C5.out _ _ (by simp only [ByteArray.size_append]; first | rfl | (simp; done) | (simp; omega))).mono ?_
          rintro e w4 ⟨rfl, hb4⟩
          have B4 := bl4 B3 hb4
          clear hb4 C5
          go_wp2_with (fail)
          refine (C6.out _).mono ?_
          rintro e w5 ⟨rfl, hb5⟩
          have B5 := bl4 (B4.alloc B4.size _) hb5
          clear hb5 C6
          go_wp2_with (fail)
          refine (C7.out _).mono ?_
          rintro e w6 ⟨rfl, hb6⟩
          have B6 := bl4 B5 hb6
          clear hb6 C7
          go_wp2
          go_ret
          exact ⟨rfl, B6.alloc B6.size _⟩
    · have e1 := not_empty3 value hv0
      have e2 : ¬ value.toList = [] := fun h => by rw [h] at e1; cases e1
      clear hv hn H0 H1 HBR hv0
      go_wp2
      go_ret
      exact ⟨rfl, B3⟩
  · obtain ⟨q, p, g0, g1⟩ := H1.out hpos
    obtain ⟨_, x0, _⟩ := hv.at g0
    obtain ⟨_, _, x1⟩ := hv.at g1
    obtain ⟨n, hn⟩ : ∃ n, ps.length = n + 1 := ⟨ps.length - 1, by omega⟩
    rw [hn] at x1 ⊢
    rw [Nat.add_sub_cancel] at x1
    have hn2 : n ≤ 1000000 := by omega
    clear hv H0 H1 g0 g1 hn hpl hpos
    by_cases hF : F = 0
    · by_cases hT : T = value.size
      · have hB : Bare value.data.toList := HBR.out (by rw [hF, hT])
        have d3 : ((F : Int) != 0) = false := by rw [hF]; rfl
        have d3' : (F != 0) = false := by rw [hF]; rfl
        have d4 : ((T : Int) != (value.size : Int)) = false := by rw [hT]; exact bne_eq_false_iff_eq.2 rfl
        have d4' : (T != value.size) = false := bne_eq_false_iff_eq.2 hT
        have d5 : ((n : Int) + 1 == 0) = false := by rw [beq_eq_false_iff_ne]; omega
        obtain ⟨i2, j2, hK2, hij, hjs, hext⟩ := pair_both hik.out hB G
        have hSs : (pairS key value G).size ≤ 2000000 := by
          unfold pairS
          simp only [ByteArray.size_append, gap_size]
          show G + key.size + G + 1 + G + value.size + G ≤ _
          omega
        have C5 : Hid (∀ W (n : Int), n = ((pairS key value G).size : Int) → Calls Try.prog 17 #[.string (pairS key value G), .int .i64 0, .int .i64 n] W fun e w' => e = .returned (.tuple #[.string key, .agg #[.int .i64 (i2 : Int), .int .i64 (j2 : Int)], .bool true]) ∧ Below W.heap.size W w') := fun W n hn => by
          subst hn; exact Try.Key_calls _ _ _ _ _ _ _ W hSs hK2
        have C6 : Hid (∀ W, Calls Try.prog 15 #[.string (pairS key value G), .agg #[.int .i64 (i2 : Int), .int .i64 (j2 : Int)]] W fun e w' => e = .returned (.string value) ∧ Below W.heap.size W w') := fun W => by
          have := Try.textN (pairS key value G) i2 j2 W hij hjs
          rwa [hext] at this
        have hS2 : ((key ++ gapS G).size : Int) = (key.size : Int) + ((gapS G).size : Int) := by rw [ByteArray.size_append]; omega
        have C7 : Hid (∀ W, Calls Try.prog 17 #[.string (key ++ gapS G), .int .i64 0, .int .i64 ((key.size : Int) + ((gapS G).size : Int))] W fun e w' => e = .returned (.tuple #[.string key, .agg #[.int .i64 ((key.size : Int) + ((gapS G).size : Int)), .int .i64 ((key.size : Int) + ((gapS G).size : Int))], .bool true]) ∧ Below W.heap.size W w') := fun W => by
          have := Try.Key_calls _ _ _ _ _ _ _ W (by rw [ByteArray.size_append, gap_size]; omega) (pair_alone hik.out G)
          unfold keyV at this
          rw [hS2] at this
          exact this
        unfold pairS at C5 C6
        clear hK2 hij hjs hext hSs hS2 hB
        clear hF hT HBR
        go_wp2
        clear d3 d3' d4 d4' d5
        go_loop [11, 12] (fun gv iv => ∃ m : Nat, m ≤ G ∧ iv = .int .i64 (m : Int) ∧ gv = .string (gapS m)) (fun _ iv => G - (intOf iv).toNat)
        case atStart => exact ⟨0, Nat.zero_le _, rfl, rfl⟩
        case round =>
          obtain ⟨m, hm, rfl, rfl⟩ := hrel
          have hgs : (gapS m).size ≤ 4 := by rw [gap_size]; omega
          by_cases hlt : m < G
          · have HGS := Lib.hid (gap_step m)
            have dm : decide (m < G) = true := decide_eq_true hlt
            have dm2 : decide ((m : Int) < (G : Int)) = true := decide_eq_true (by omega)
            go_wp2
            go_round
            case rel => exact ⟨m + 1, by omega, by go_num, by rw [HGS.out]⟩
            case measure => simp [intOf]; omega
          · have dm : decide (m < G) = false := decide_eq_false hlt
            have dm2 : decide ((m : Int) < (G : Int)) = false := decide_eq_false (by omega)
            have hmG : m = G := by omega
            obtain ⟨GS, hGS⟩ : ∃ GS, gapS G = GS := ⟨_, rfl⟩
            rw [hmG, hGS] at hgs
            have HMG := Lib.hid hmG
            clear hmG hlt
            rw [show gapS m = GS by rw [HMG.out]; exact hGS]
            rw [hGS] at C5 C6 C7
            clear hGS
            have hv200 : value.size ≤ 200 := hshort
            go_wp2_with (fail)
            refine (C5.out _ _ (by simp only [ByteArray.size_append]; first | rfl | (simp; done) | (simp; omega))).mono ?_
            rintro e w4 ⟨rfl, hb4⟩
            have B4 := bl4 B3 hb4
            clear hb4 C5
            go_wp2_with (fail)
            refine (C6.out _).mono ?_
            rintro e w5 ⟨rfl, hb5⟩
            have B5 := bl4 (B4.alloc B4.size _) hb5
            clear hb5 C6
            go_wp2_with (fail)
            refine (C7.out _).mono ?_
            rintro e w6 ⟨rfl, hb6⟩
            have B6 := bl4 B5 hb6
            clear hb6 C7
            go_wp2
            go_ret
            exact ⟨rfl, B6.alloc B6.size _⟩
      · have d3 : ((F : Int) != 0) = false := by rw [hF]; rfl
        have d3' : (F != 0) = false := by rw [hF]; rfl
        have d4 : ((T : Int) != (value.size : Int)) = true := bne_iff_ne.2 (by omega)
        have d4' : (T != value.size) = true := bne_iff_ne.2 hT
        clear hF hT HBR
        go_wp2
        go_ret
        exact ⟨rfl, B3⟩
    · have d3 : ((F : Int) != 0) = true := bne_iff_ne.2 (by omega)
      clear hF HBR
      go_wp2
      go_ret
      exact ⟨rfl, B3⟩
/-- The law, at every key of at most two million bytes. -/
theorem Try.WordsPaired_calls (key value : ByteArray) (bn : Nat) (w : World) (hks : key.size ≤ 2000000) (hbn : bn ≤ 255) :
    Calls Try.prog 8 #[.string key, .string value, .int .u8 (bn : Int)] w fun e w' => e = .returned (.bool true) ∧ Below w.heap.size w w' := by
  obtain ⟨k, i, j, t, hk⟩ := key_is key 0 (key.size : Int)
  cases t with
  | false => exact Try.Paired_none key value bn w hks k i j hk
  | true =>
    by_cases e : k = key
    · subst e
      by_cases h : 200 < value.size
      · exact Try.Paired_long _ value bn w hks i j hk h
      · exact Try.Paired_short _ value bn w hks hbn i j hk (by omega)
    · exact Try.Paired_other key value bn w hks k i j hk e
#print axioms Try.WordsPaired_calls
end Go.Proofs
