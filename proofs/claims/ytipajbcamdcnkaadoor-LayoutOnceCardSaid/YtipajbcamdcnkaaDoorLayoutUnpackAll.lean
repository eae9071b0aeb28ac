/- The document's own answer for layout.Unpack, at any numbers and any slice of ints. Conditions: none. -/
import Derived.Test.YtipajbcamdcnkaaDoorLayoutUnpack
namespace Go.Layout
/-- layout.Unpack: the matrix and the error. -/
def unpackE (k n : Int) (l : List Int) : List Int × Int :=
  if mayB k n = false then ([], 1) else if l.length = count k.toNat n.toNat then (unpack k.toNat n.toNat l, 0) else ([], 70)
theorem unpackE_arg {k n : Int} {l : List Int} (h : mayB k n = false) : unpackE k n l = ([], 1) := by unfold unpackE; rw [if_pos h]
theorem unpackE_ok {k n : Nat} {l : List Int} (h : mayB k n = true) (hl : l.length = count k n) : unpackE k n l = (unpack k n l, 0) := by
  unfold unpackE; rw [if_neg (by rw [h]; simp), if_pos (by simpa using hl)]; simp
theorem unpackE_len {k n : Nat} {l : List Int} (h : mayB k n = true) (hl : ¬ l.length = count k n) : unpackE k n l = ([], 70) := by
  unfold unpackE; rw [if_neg (by rw [h]; simp), if_neg (by simpa using hl)]
end Go.Layout
namespace Go.Proofs
open Go.RowKit Go.Shelf Go.Layout Go.Sort
attribute [local go_sem] Oper.semAt_some

set_option maxRecDepth 100000 in
set_option maxHeartbeats 4000000 in
theorem Tryd.RUnpack_one_empty (n cap : Nat) (ao : Option Addr) (w : World) (hn : 1 ≤ n) (hn4 : n ≤ 400) (hl : ([] : List Int).length = count 1 n) :
    Calls Tryd.prog 19 #[.int .i64 1, .int .i64 (n : Int), .slice ao ([] : List Int).length cap] w fun e w' => ∃ v', e = .returned (.tuple #[v', .int .i64 0]) ∧ HasInts w' v' (unpack 1 n []) ∧ Below w.heap.size w w' := by
  obtain ⟨i0, hi, hz0, hz1, hz2⟩ := info_parts Tryd.info3
  have HI := Lib.hid hi
  have M := fun (w : World) => Tryd.rmay_calls (1 : Nat) n w
  rw [mayB_nat (by omega) (by omega) hn hn4] at M
  have C := fun (w : World) => Tryd.RCount_calls 1 n w (by omega) (by omega) hn hn4
  rw [← hl] at C
  have T := fun (i j : Nat) (w : World) => Tryd.rtells_calls 1 i j w (by omega) (by omega)
  (try simp only [Int.natCast_one] at M C T)
  have h1 : n * n ≤ 400 * 400 := Nat.mul_le_mul hn4 hn4
  have w1 : wrap64 ((n : Int) * (n : Int)) = ((n * n : Nat) : Int) := by rw [show (n : Int) * (n : Int) = ((n * n : Nat) : Int) by simp]; unfold wrap64; omega
  have hpos : 0 < n * n := Nat.mul_pos hn hn
  obtain ⟨N, hN⟩ : ∃ N, n * n = N := ⟨_, rfl⟩
  rw [hN] at h1 w1 hpos
  have HN := Lib.hid hN
  have HL := Lib.hid hl
  obtain ⟨q, hq⟩ : ∃ q, ([] : List Int).length = q := ⟨_, rfl⟩
  have hq9 : q ≤ 400 * 400 := by
    have := places_length (k := 1) (n := n) (by omega) (by omega)
    have h2 := toldUpto_all 1 n
    have h3 := len_rows (k := 1) (Nat.le_refl n)
    have h4 := rowsUp_le 1 n n
    rw [h2] at h3
    omega
  rw [hq] at C ⊢
  have HQ := Lib.hid hq
  clear hN hl hi hq
  go_enter Tryd.func19, Tryd.ntmps19
  go_wp2_with (first
    | (go_at_call 25; (with_reducible refine (M _).mono ?_); rintro e w2 ⟨rfl, hw2⟩; obtain rfl : w = w2 := hw2.symm)
    | (go_at_call 11; (with_reducible refine (C _).mono ?_); rintro e w3 ⟨rfl, hw3⟩; obtain rfl : w = w3 := hw3.symm))
  clear M C
  go_loopw [8, 9] (fun m' i wr => ∃ c : Nat, c ≤ N ∧ i = .int .i64 (c : Int) ∧ wr.ownsRow w.heap.size 3 1 m' c ((List.replicate c 0).map intV) ∧ Below w.heap.size w wr) (fun _ i _ => N - (intOf i).toNat)
  case atStart => exact ⟨0, Nat.zero_le _, rfl, owns_empty1 w 3, (Below.refl _ w).alloc (Nat.le_refl _) _⟩
  case round =>
    obtain ⟨c, hc, rfl, hown, hB⟩ := hrel
    have hB1 : w.heap.size ≤ wr.heap.size := hB.size
    have hml : c + 1 ≤ maxLen := by unfold maxLen; omega
    have hml2 : (c + 1) * 8 ≤ 140737488355328 := by omega
    by_cases hlt : c < N
    · go_wp2_with (at_builtin; refine wpList_append_own _ rfl _ _ 28 rfl w.heap.size 3 i0 (.int .i64 0) 1 8 Tryd.underlying28 HI.out hz0 hz1 hz2 rfl (by decide) _ _ _ rfl (hown.alloc _) ⟨wr.heap.size, 0, none⟩ 1 1 [.int .i64 0] rfl rfl (cells_one wr _ _) (by simp [Value.oneCell']) hml hml2 (by simp; omega) ?_; intro v' w1 hown' hgrow _)
      go_roundw
      case rel => exact ⟨c + 1, by omega, by go_num, by rw [List.replicate_succ', List.map_append]; exact hown', lgrown_below hB hB1 hown hgrow⟩
      case measure => simp [intOf]; omega
    · obtain rfl : c = N := by omega
      have HO := Lib.hid (show wr.ownsRow w.heap.size 3 1 u8 c ((matUpto [] 1 n (0 * n + 0)).map intV) by
        rw [show 0 * n + 0 = 0 by omega, matUpto_zero, HN.out]; exact hown)
      rcases hown.2 with ⟨_, h0⟩ | ⟨g, cap', cur, rfl, hg, _⟩
      · exact absurd h0 (by omega)
      clear hown
      have Hg := Lib.hid hg
      clear hg
      go_wp2
      clear w1
      go_loopw [10, 11] (fun kk aa ws => ∃ a : Nat, a ≤ n ∧ aa = .int .i64 (a : Int) ∧ kk = .int .i64 ((toldUpto 1 n (a * n + 0)).length : Int) ∧ ws.ownsRow w.heap.size 3 1 (.slice (some ⟨g, 0, none⟩) c cap') c ((matUpto [] 1 n (a * n + 0)).map intV) ∧ Below w.heap.size w ws) (fun _ aa _ => n - (intOf aa).toNat)
      case atStart => exact ⟨0, Nat.zero_le _, rfl, by rw [show 0 * n + 0 = 0 by omega, toldUpto_zero]; rfl, HO.out, hB⟩
      case round =>
        obtain ⟨a, ha, rfl, rfl, hown, hB2⟩ := hrel
        clear HO hB hB1
        by_cases hlta : a < n
        · obtain ⟨t0, ht0⟩ : ∃ t0, (toldUpto 1 n (a * n + 0)).length = t0 := ⟨_, rfl⟩
          rw [ht0]
          have HO := Lib.hid hown
          have HT0 := Lib.hid ht0
          clear hown ht0
          go_wp2
          go_loopw [10, 12] (fun kk bb ws => ∃ b : Nat, b ≤ n ∧ bb = .int .i64 (b : Int) ∧ kk = .int .i64 ((toldUpto 1 n (a * n + b)).length : Int) ∧ ws.ownsRow w.heap.size 3 1 (.slice (some ⟨g, 0, none⟩) c cap') c ((matUpto [] 1 n (a * n + b)).map intV) ∧ Below w.heap.size w ws) (fun _ bb _ => n - (intOf bb).toNat)
          case atStart => exact ⟨0, Nat.zero_le _, rfl, by rw [HT0.out], HO.out, hB2⟩
          case round =>
            obtain ⟨b, hb, rfl, rfl, hown, hB3⟩ := hrel
            clear HO HT0 hB2
            have hlen : (toldUpto 1 n (a * n + b)).length ≤ q := by
              have := toldUpto_le 1 n (a * n + b)
              rw [places_length (by omega) (by omega), ← HL.out, HQ.out] at this
              exact this
            by_cases hltb : b < n
            · have hlen1 := len_next (k := 1) hlta hltb
              have Tab := fun (w : World) => T a b w
              have hcell : cellAt 1 (a, b) = (a, b) := (by simp [cellAt])
              have htold : told 1 a b = tells 1 a b := by unfold told; rw [hcell]
              obtain ⟨t, ht⟩ : ∃ t, (toldUpto 1 n (a * n + b)).length = t := ⟨_, rfl⟩
              rw [ht] at hlen hlen1 ⊢
              cases hx : tells 1 a b with
              | false =>
                rw [hx] at htold
                have Tx : ∀ w : World, Calls Tryd.prog 28 #[.int .i64 1, .int .i64 (a : Int), .int .i64 (b : Int)] w fun e w' => e = .returned (.bool false) ∧ w' = w := fun w => hx ▸ Tab w
                rw [htold] at hlen1
                have HM := Lib.hid (matUpto_none (l := []) hltb htold)
                have HT1 := Lib.hid hlen1
                have HO := Lib.hid hown
                clear hown hx htold hlen1 ht Tab hcell T
                go_wp2_with (go_at_call 28; (with_reducible refine (Tx _).mono ?_); rintro e w5 ⟨rfl, hw5⟩; obtain rfl : wr = w5 := hw5.symm)
                go_roundw
                case rel => exact ⟨b + 1, by omega, by go_num, by rw [← Nat.add_assoc, HT1.out]; simp, by rw [← Nat.add_assoc, HM.out]; exact HO.out, hB3⟩
                case measure => simp [intOf]; omega
              | true =>
                have Tx : ∀ w : World, Calls Tryd.prog 28 #[.int .i64 1, .int .i64 (a : Int), .int .i64 (b : Int)] w fun e w' => e = .returned (.bool true) ∧ w' = w := fun w => hx ▸ Tab w
                have htrue : told 1 a b = true := by rw [htold, hx]
                rw [htrue] at hlen1
                have hpl := places_at (k := 1) hlta hltb htrue
                rw [ht] at hpl
                have htq : t < ([] : List Int).length := by
                  have h2 := (List.getElem?_eq_some_iff.1 hpl).1
                  rw [places_length (by omega) (by omega), ← HL.out] at h2
                  exact h2
                exact absurd htq (by simp)
            · obtain rfl : b = n := by omega
              have HO := Lib.hid hown
              clear hown
              go_wp2
              go_roundw
              case rel => exact ⟨a + 1, by omega, by go_num, by rw [Nat.add_mul, Nat.one_mul]; rfl, by rw [Nat.add_mul, Nat.one_mul]; exact HO.out, hB3⟩
              case measure => simp [intOf]; omega
        · obtain rfl : a = n := by omega
          have HF : Hid (HasInts wr (.slice (some ⟨g, 0, none⟩) c cap') (unpack 1 a [])) := by
            unfold Hid
            have h := hown
            rw [Nat.add_zero, matUpto_all] at h
            refine hasInts_of_owns (base := w.heap.size) (e := 3) ?_
            rw [show (unpack 1 a []).length = c by rw [unpack, grid_length, HN.out]]
            exact h
          clear hown
          go_wp2
          go_ret2
          exact ⟨_, rfl, HF.out, hB2⟩
set_option maxRecDepth 100000 in
set_option maxHeartbeats 4000000 in
theorem Tryd.RUnpack_mid_empty (k : Nat) (hk : 1 ≤ k) (hk7 : k ≤ 7) (h1k : k ≠ 1) (h6 : k ≠ 6) (h7 : k ≠ 7) (n cap : Nat) (ao : Option Addr) (w : World) (hn : 1 ≤ n) (hn4 : n ≤ 400) (hl : ([] : List Int).length = count k n) :
    Calls Tryd.prog 19 #[.int .i64 (k : Int), .int .i64 (n : Int), .slice ao ([] : List Int).length cap] w fun e w' => ∃ v', e = .returned (.tuple #[v', .int .i64 0]) ∧ HasInts w' v' (unpack k n []) ∧ Below w.heap.size w w' := by
  obtain ⟨i0, hi, hz0, hz1, hz2⟩ := info_parts Tryd.info3
  have HI := Lib.hid hi
  have M := fun (w : World) => Tryd.rmay_calls (k : Nat) n w
  rw [mayB_nat hk hk7 hn hn4] at M
  have C := fun (w : World) => Tryd.RCount_calls k n w hk hk7 hn hn4
  rw [← hl] at C
  have T := fun (i j : Nat) (w : World) => Tryd.rtells_calls k i j w hk hk7
  have c1 : ((k : Int) != 1) = true := bne_iff_ne.2 (by omega)
  have c6 : ((k : Int) == 6) = false := beq_eq_false_iff_ne.2 (by omega)
  have c7 : ((k : Int) == 7) = false := beq_eq_false_iff_ne.2 (by omega)
  have h1 : n * n ≤ 400 * 400 := Nat.mul_le_mul hn4 hn4
  have w1 : wrap64 ((n : Int) * (n : Int)) = ((n * n : Nat) : Int) := by rw [show (n : Int) * (n : Int) = ((n * n : Nat) : Int) by simp]; unfold wrap64; omega
  have hpos : 0 < n * n := Nat.mul_pos hn hn
  obtain ⟨N, hN⟩ : ∃ N, n * n = N := ⟨_, rfl⟩
  rw [hN] at h1 w1 hpos
  have HN := Lib.hid hN
  have HL := Lib.hid hl
  obtain ⟨q, hq⟩ : ∃ q, ([] : List Int).length = q := ⟨_, rfl⟩
  have hq9 : q ≤ 400 * 400 := by
    have := places_length (k := k) (n := n) hk hk7
    have h2 := toldUpto_all k n
    have h3 := len_rows (k := k) (Nat.le_refl n)
    have h4 := rowsUp_le k n n
    rw [h2] at h3
    omega
  rw [hq] at C ⊢
  have HQ := Lib.hid hq
  clear hN hl hi hq
  go_enter Tryd.func19, Tryd.ntmps19
  go_wp2_with (first
    | (go_at_call 25; (with_reducible refine (M _).mono ?_); rintro e w2 ⟨rfl, hw2⟩; obtain rfl : w = w2 := hw2.symm)
    | (go_at_call 11; (with_reducible refine (C _).mono ?_); rintro e w3 ⟨rfl, hw3⟩; obtain rfl : w = w3 := hw3.symm))
  clear M C
  go_loopw [8, 9] (fun m' i wr => ∃ c : Nat, c ≤ N ∧ i = .int .i64 (c : Int) ∧ wr.ownsRow w.heap.size 3 1 m' c ((List.replicate c 0).map intV) ∧ Below w.heap.size w wr) (fun _ i _ => N - (intOf i).toNat)
  case atStart => exact ⟨0, Nat.zero_le _, rfl, owns_empty1 w 3, (Below.refl _ w).alloc (Nat.le_refl _) _⟩
  case round =>
    obtain ⟨c, hc, rfl, hown, hB⟩ := hrel
    have hB1 : w.heap.size ≤ wr.heap.size := hB.size
    have hml : c + 1 ≤ maxLen := by unfold maxLen; omega
    have hml2 : (c + 1) * 8 ≤ 140737488355328 := by omega
    by_cases hlt : c < N
    · go_wp2_with (at_builtin; refine wpList_append_own _ rfl _ _ 28 rfl w.heap.size 3 i0 (.int .i64 0) 1 8 Tryd.underlying28 HI.out hz0 hz1 hz2 rfl (by decide) _ _ _ rfl (hown.alloc _) ⟨wr.heap.size, 0, none⟩ 1 1 [.int .i64 0] rfl rfl (cells_one wr _ _) (by simp [Value.oneCell']) hml hml2 (by simp; omega) ?_; intro v' w1 hown' hgrow _)
      go_roundw
      case rel => exact ⟨c + 1, by omega, by go_num, by rw [List.replicate_succ', List.map_append]; exact hown', lgrown_below hB hB1 hown hgrow⟩
      case measure => simp [intOf]; omega
    · obtain rfl : c = N := by omega
      have HO := Lib.hid (show wr.ownsRow w.heap.size 3 1 u8 c ((matUpto [] k n (0 * n + 0)).map intV) by
        rw [show 0 * n + 0 = 0 by omega, matUpto_zero, HN.out]; exact hown)
      rcases hown.2 with ⟨_, h0⟩ | ⟨g, cap', cur, rfl, hg, _⟩
      · exact absurd h0 (by omega)
      clear hown
      have Hg := Lib.hid hg
      clear hg
      go_wp2
      clear w1
      go_loopw [10, 11] (fun kk aa ws => ∃ a : Nat, a ≤ n ∧ aa = .int .i64 (a : Int) ∧ kk = .int .i64 ((toldUpto k n (a * n + 0)).length : Int) ∧ ws.ownsRow w.heap.size 3 1 (.slice (some ⟨g, 0, none⟩) c cap') c ((matUpto [] k n (a * n + 0)).map intV) ∧ Below w.heap.size w ws) (fun _ aa _ => n - (intOf aa).toNat)
      case atStart => exact ⟨0, Nat.zero_le _, rfl, by rw [show 0 * n + 0 = 0 by omega, toldUpto_zero]; rfl, HO.out, hB⟩
      case round =>
        obtain ⟨a, ha, rfl, rfl, hown, hB2⟩ := hrel
        clear HO hB hB1
        by_cases hlta : a < n
        · obtain ⟨t0, ht0⟩ : ∃ t0, (toldUpto k n (a * n + 0)).length = t0 := ⟨_, rfl⟩
          rw [ht0]
          have HO := Lib.hid hown
          have HT0 := Lib.hid ht0
          clear hown ht0
          go_wp2
          go_loopw [10, 12] (fun kk bb ws => ∃ b : Nat, b ≤ n ∧ bb = .int .i64 (b : Int) ∧ kk = .int .i64 ((toldUpto k n (a * n + b)).length : Int) ∧ ws.ownsRow w.heap.size 3 1 (.slice (some ⟨g, 0, none⟩) c cap') c ((matUpto [] k n (a * n + b)).map intV) ∧ Below w.heap.size w ws) (fun _ bb _ => n - (intOf bb).toNat)
          case atStart => exact ⟨0, Nat.zero_le _, rfl, by rw [HT0.out], HO.out, hB2⟩
          case round =>
            obtain ⟨b, hb, rfl, rfl, hown, hB3⟩ := hrel
            clear HO HT0 hB2
            have hlen : (toldUpto k n (a * n + b)).length ≤ q := by
              have := toldUpto_le k n (a * n + b)
              rw [places_length hk hk7, ← HL.out, HQ.out] at this
              exact this
            by_cases hltb : b < n
            · have hlen1 := len_next (k := k) hlta hltb
              have Tab := fun (w : World) => T a b w
              have hcell : cellAt k (a, b) = (a, b) := (by simp [cellAt, h6, h7])
              have htold : told k a b = tells k a b := by unfold told; rw [hcell]
              obtain ⟨t, ht⟩ : ∃ t, (toldUpto k n (a * n + b)).length = t := ⟨_, rfl⟩
              rw [ht] at hlen hlen1 ⊢
              cases hx : tells k a b with
              | false =>
                rw [hx] at htold
                have Tx : ∀ w : World, Calls Tryd.prog 28 #[.int .i64 (k : Int), .int .i64 (a : Int), .int .i64 (b : Int)] w fun e w' => e = .returned (.bool false) ∧ w' = w := fun w => hx ▸ Tab w
                rw [htold] at hlen1
                have HM := Lib.hid (matUpto_none (l := []) hltb htold)
                have HT1 := Lib.hid hlen1
                have HO := Lib.hid hown
                clear hown hx htold hlen1 ht Tab hcell T
                go_wp2_with (go_at_call 28; (with_reducible refine (Tx _).mono ?_); rintro e w5 ⟨rfl, hw5⟩; obtain rfl : wr = w5 := hw5.symm)
                go_roundw
                case rel => exact ⟨b + 1, by omega, by go_num, by rw [← Nat.add_assoc, HT1.out]; simp, by rw [← Nat.add_assoc, HM.out]; exact HO.out, hB3⟩
                case measure => simp [intOf]; omega
              | true =>
                have Tx : ∀ w : World, Calls Tryd.prog 28 #[.int .i64 (k : Int), .int .i64 (a : Int), .int .i64 (b : Int)] w fun e w' => e = .returned (.bool true) ∧ w' = w := fun w => hx ▸ Tab w
                have htrue : told k a b = true := by rw [htold, hx]
                rw [htrue] at hlen1
                have hpl := places_at (k := k) hlta hltb htrue
                rw [ht] at hpl
                have htq : t < ([] : List Int).length := by
                  have h2 := (List.getElem?_eq_some_iff.1 hpl).1
                  rw [places_length hk hk7, ← HL.out] at h2
                  exact h2
                exact absurd htq (by simp)
            · obtain rfl : b = n := by omega
              have HO := Lib.hid hown
              clear hown
              go_wp2
              go_roundw
              case rel => exact ⟨a + 1, by omega, by go_num, by rw [Nat.add_mul, Nat.one_mul]; rfl, by rw [Nat.add_mul, Nat.one_mul]; exact HO.out, hB3⟩
              case measure => simp [intOf]; omega
        · obtain rfl : a = n := by omega
          have HF : Hid (HasInts wr (.slice (some ⟨g, 0, none⟩) c cap') (unpack k a [])) := by
            unfold Hid
            have h := hown
            rw [Nat.add_zero, matUpto_all] at h
            refine hasInts_of_owns (base := w.heap.size) (e := 3) ?_
            rw [show (unpack k a []).length = c by rw [unpack, grid_length, HN.out]]
            exact h
          clear hown
          go_wp2
          go_ret2
          exact ⟨_, rfl, HF.out, hB2⟩
set_option maxRecDepth 100000 in
set_option maxHeartbeats 4000000 in
theorem Tryd.RUnpack_six_empty (n cap : Nat) (ao : Option Addr) (w : World) (hn : 1 ≤ n) (hn4 : n ≤ 400) (hl : ([] : List Int).length = count 6 n) :
    Calls Tryd.prog 19 #[.int .i64 6, .int .i64 (n : Int), .slice ao ([] : List Int).length cap] w fun e w' => ∃ v', e = .returned (.tuple #[v', .int .i64 0]) ∧ HasInts w' v' (unpack 6 n []) ∧ Below w.heap.size w w' := by
  obtain ⟨i0, hi, hz0, hz1, hz2⟩ := info_parts Tryd.info3
  have HI := Lib.hid hi
  have M := fun (w : World) => Tryd.rmay_calls (6 : Nat) n w
  rw [mayB_nat (by omega) (by omega) hn hn4] at M
  have C := fun (w : World) => Tryd.RCount_calls 6 n w (by omega) (by omega) hn hn4
  rw [← hl] at C
  have T := fun (i j : Nat) (w : World) => Tryd.rtells_calls 6 i j w (by omega) (by omega)
  (try simp only [Int.cast_ofNat_Int] at M C T)
  have h1 : n * n ≤ 400 * 400 := Nat.mul_le_mul hn4 hn4
  have w1 : wrap64 ((n : Int) * (n : Int)) = ((n * n : Nat) : Int) := by rw [show (n : Int) * (n : Int) = ((n * n : Nat) : Int) by simp]; unfold wrap64; omega
  have hpos : 0 < n * n := Nat.mul_pos hn hn
  obtain ⟨N, hN⟩ : ∃ N, n * n = N := ⟨_, rfl⟩
  rw [hN] at h1 w1 hpos
  have HN := Lib.hid hN
  have HL := Lib.hid hl
  obtain ⟨q, hq⟩ : ∃ q, ([] : List Int).length = q := ⟨_, rfl⟩
  have hq9 : q ≤ 400 * 400 := by
    have := places_length (k := 6) (n := n) (by omega) (by omega)
    have h2 := toldUpto_all 6 n
    have h3 := len_rows (k := 6) (Nat.le_refl n)
    have h4 := rowsUp_le 6 n n
    rw [h2] at h3
    omega
  rw [hq] at C ⊢
  have HQ := Lib.hid hq
  clear hN hl hi hq
  go_enter Tryd.func19, Tryd.ntmps19
  go_wp2_with (first
    | (go_at_call 25; (with_reducible refine (M _).mono ?_); rintro e w2 ⟨rfl, hw2⟩; obtain rfl : w = w2 := hw2.symm)
    | (go_at_call 11; (with_reducible refine (C _).mono ?_); rintro e w3 ⟨rfl, hw3⟩; obtain rfl : w = w3 := hw3.symm))
  clear M C
  go_loopw [8, 9] (fun m' i wr => ∃ c : Nat, c ≤ N ∧ i = .int .i64 (c : Int) ∧ wr.ownsRow w.heap.size 3 1 m' c ((List.replicate c 0).map intV) ∧ Below w.heap.size w wr) (fun _ i _ => N - (intOf i).toNat)
  case atStart => exact ⟨0, Nat.zero_le _, rfl, owns_empty1 w 3, (Below.refl _ w).alloc (Nat.le_refl _) _⟩
  case round =>
    obtain ⟨c, hc, rfl, hown, hB⟩ := hrel
    have hB1 : w.heap.size ≤ wr.heap.size := hB.size
    have hml : c + 1 ≤ maxLen := by unfold maxLen; omega
    have hml2 : (c + 1) * 8 ≤ 140737488355328 := by omega
    by_cases hlt : c < N
    · go_wp2_with (at_builtin; refine wpList_append_own _ rfl _ _ 28 rfl w.heap.size 3 i0 (.int .i64 0) 1 8 Tryd.underlying28 HI.out hz0 hz1 hz2 rfl (by decide) _ _ _ rfl (hown.alloc _) ⟨wr.heap.size, 0, none⟩ 1 1 [.int .i64 0] rfl rfl (cells_one wr _ _) (by simp [Value.oneCell']) hml hml2 (by simp; omega) ?_; intro v' w1 hown' hgrow _)
      go_roundw
      case rel => exact ⟨c + 1, by omega, by go_num, by rw [List.replicate_succ', List.map_append]; exact hown', lgrown_below hB hB1 hown hgrow⟩
      case measure => simp [intOf]; omega
    · obtain rfl : c = N := by omega
      have HO := Lib.hid (show wr.ownsRow w.heap.size 3 1 u8 c ((matUpto [] 6 n (0 * n + 0)).map intV) by
        rw [show 0 * n + 0 = 0 by omega, matUpto_zero, HN.out]; exact hown)
      rcases hown.2 with ⟨_, h0⟩ | ⟨g, cap', cur, rfl, hg, _⟩
      · exact absurd h0 (by omega)
      clear hown
      have Hg := Lib.hid hg
      clear hg
      go_wp2
      clear w1
      go_loopw [10, 11] (fun kk aa ws => ∃ a : Nat, a ≤ n ∧ aa = .int .i64 (a : Int) ∧ kk = .int .i64 ((toldUpto 6 n (a * n + 0)).length : Int) ∧ ws.ownsRow w.heap.size 3 1 (.slice (some ⟨g, 0, none⟩) c cap') c ((matUpto [] 6 n (a * n + 0)).map intV) ∧ Below w.heap.size w ws) (fun _ aa _ => n - (intOf aa).toNat)
      case atStart => exact ⟨0, Nat.zero_le _, rfl, by rw [show 0 * n + 0 = 0 by omega, toldUpto_zero]; rfl, HO.out, hB⟩
      case round =>
        obtain ⟨a, ha, rfl, rfl, hown, hB2⟩ := hrel
        clear HO hB hB1
        by_cases hlta : a < n
        · obtain ⟨t0, ht0⟩ : ∃ t0, (toldUpto 6 n (a * n + 0)).length = t0 := ⟨_, rfl⟩
          rw [ht0]
          have HO := Lib.hid hown
          have HT0 := Lib.hid ht0
          clear hown ht0
          go_wp2
          go_loopw [10, 12] (fun kk bb ws => ∃ b : Nat, b ≤ n ∧ bb = .int .i64 (b : Int) ∧ kk = .int .i64 ((toldUpto 6 n (a * n + b)).length : Int) ∧ ws.ownsRow w.heap.size 3 1 (.slice (some ⟨g, 0, none⟩) c cap') c ((matUpto [] 6 n (a * n + b)).map intV) ∧ Below w.heap.size w ws) (fun _ bb _ => n - (intOf bb).toNat)
          case atStart => exact ⟨0, Nat.zero_le _, rfl, by rw [HT0.out], HO.out, hB2⟩
          case round =>
            obtain ⟨b, hb, rfl, rfl, hown, hB3⟩ := hrel
            clear HO HT0 hB2
            have hlen : (toldUpto 6 n (a * n + b)).length ≤ q := by
              have := toldUpto_le 6 n (a * n + b)
              rw [places_length (by omega) (by omega), ← HL.out, HQ.out] at this
              exact this
            by_cases hltb : b < n
            · have hlen1 := len_next (k := 6) hlta hltb
              have Tab := fun (w : World) => T b a w
              have hcell : cellAt 6 (a, b) = (b, a) := (by simp [cellAt])
              have htold : told 6 a b = tells 6 b a := by unfold told; rw [hcell]
              obtain ⟨t, ht⟩ : ∃ t, (toldUpto 6 n (a * n + b)).length = t := ⟨_, rfl⟩
              rw [ht] at hlen hlen1 ⊢
              cases hx : tells 6 b a with
              | false =>
                rw [hx] at htold
                have Tx : ∀ w : World, Calls Tryd.prog 28 #[.int .i64 6, .int .i64 (b : Int), .int .i64 (a : Int)] w fun e w' => e = .returned (.bool false) ∧ w' = w := fun w => hx ▸ Tab w
                rw [htold] at hlen1
                have HM := Lib.hid (matUpto_none (l := []) hltb htold)
                have HT1 := Lib.hid hlen1
                have HO := Lib.hid hown
                clear hown hx htold hlen1 ht Tab hcell T
                go_wp2_with (go_at_call 28; (with_reducible refine (Tx _).mono ?_); rintro e w5 ⟨rfl, hw5⟩; obtain rfl : wr = w5 := hw5.symm)
                go_roundw
                case rel => exact ⟨b + 1, by omega, by go_num, by rw [← Nat.add_assoc, HT1.out]; simp, by rw [← Nat.add_assoc, HM.out]; exact HO.out, hB3⟩
                case measure => simp [intOf]; omega
              | true =>
                have Tx : ∀ w : World, Calls Tryd.prog 28 #[.int .i64 6, .int .i64 (b : Int), .int .i64 (a : Int)] w fun e w' => e = .returned (.bool true) ∧ w' = w := fun w => hx ▸ Tab w
                have htrue : told 6 a b = true := by rw [htold, hx]
                rw [htrue] at hlen1
                have hpl := places_at (k := 6) hlta hltb htrue
                rw [ht] at hpl
                have htq : t < ([] : List Int).length := by
                  have h2 := (List.getElem?_eq_some_iff.1 hpl).1
                  rw [places_length (by omega) (by omega), ← HL.out] at h2
                  exact h2
                exact absurd htq (by simp)
            · obtain rfl : b = n := by omega
              have HO := Lib.hid hown
              clear hown
              go_wp2
              go_roundw
              case rel => exact ⟨a + 1, by omega, by go_num, by rw [Nat.add_mul, Nat.one_mul]; rfl, by rw [Nat.add_mul, Nat.one_mul]; exact HO.out, hB3⟩
              case measure => simp [intOf]; omega
        · obtain rfl : a = n := by omega
          have HF : Hid (HasInts wr (.slice (some ⟨g, 0, none⟩) c cap') (unpack 6 a [])) := by
            unfold Hid
            have h := hown
            rw [Nat.add_zero, matUpto_all] at h
            refine hasInts_of_owns (base := w.heap.size) (e := 3) ?_
            rw [show (unpack 6 a []).length = c by rw [unpack, grid_length, HN.out]]
            exact h
          clear hown
          go_wp2
          go_ret2
          exact ⟨_, rfl, HF.out, hB2⟩
set_option maxRecDepth 100000 in
set_option maxHeartbeats 4000000 in
theorem Tryd.RUnpack_seven_empty (n cap : Nat) (ao : Option Addr) (w : World) (hn : 1 ≤ n) (hn4 : n ≤ 400) (hl : ([] : List Int).length = count 7 n) :
    Calls Tryd.prog 19 #[.int .i64 7, .int .i64 (n : Int), .slice ao ([] : List Int).length cap] w fun e w' => ∃ v', e = .returned (.tuple #[v', .int .i64 0]) ∧ HasInts w' v' (unpack 7 n []) ∧ Below w.heap.size w w' := by
  obtain ⟨i0, hi, hz0, hz1, hz2⟩ := info_parts Tryd.info3
  have HI := Lib.hid hi
  have M := fun (w : World) => Tryd.rmay_calls (7 : Nat) n w
  rw [mayB_nat (by omega) (by omega) hn hn4] at M
  have C := fun (w : World) => Tryd.RCount_calls 7 n w (by omega) (by omega) hn hn4
  rw [← hl] at C
  have T := fun (i j : Nat) (w : World) => Tryd.rtells_calls 7 i j w (by omega) (by omega)
  (try simp only [Int.cast_ofNat_Int] at M C T)
  have h1 : n * n ≤ 400 * 400 := Nat.mul_le_mul hn4 hn4
  have w1 : wrap64 ((n : Int) * (n : Int)) = ((n * n : Nat) : Int) := by rw [show (n : Int) * (n : Int) = ((n * n : Nat) : Int) by simp]; unfold wrap64; omega
  have hpos : 0 < n * n := Nat.mul_pos hn hn
  obtain ⟨N, hN⟩ : ∃ N, n * n = N := ⟨_, rfl⟩
  rw [hN] at h1 w1 hpos
  have HN := Lib.hid hN
  have HL := Lib.hid hl
  obtain ⟨q, hq⟩ : ∃ q, ([] : List Int).length = q := ⟨_, rfl⟩
  have hq9 : q ≤ 400 * 400 := by
    have := places_length (k := 7) (n := n) (by omega) (by omega)
    have h2 := toldUpto_all 7 n
    have h3 := len_rows (k := 7) (Nat.le_refl n)
    have h4 := rowsUp_le 7 n n
    rw [h2] at h3
    omega
  rw [hq] at C ⊢
  have HQ := Lib.hid hq
  clear hN hl hi hq
  go_enter Tryd.func19, Tryd.ntmps19
  go_wp2_with (first
    | (go_at_call 25; (with_reducible refine (M _).mono ?_); rintro e w2 ⟨rfl, hw2⟩; obtain rfl : w = w2 := hw2.symm)
    | (go_at_call 11; (with_reducible refine (C _).mono ?_); rintro e w3 ⟨rfl, hw3⟩; obtain rfl : w = w3 := hw3.symm))
  clear M C
  go_loopw [8, 9] (fun m' i wr => ∃ c : Nat, c ≤ N ∧ i = .int .i64 (c : Int) ∧ wr.ownsRow w.heap.size 3 1 m' c ((List.replicate c 0).map intV) ∧ Below w.heap.size w wr) (fun _ i _ => N - (intOf i).toNat)
  case atStart => exact ⟨0, Nat.zero_le _, rfl, owns_empty1 w 3, (Below.refl _ w).alloc (Nat.le_refl _) _⟩
  case round =>
    obtain ⟨c, hc, rfl, hown, hB⟩ := hrel
    have hB1 : w.heap.size ≤ wr.heap.size := hB.size
    have hml : c + 1 ≤ maxLen := by unfold maxLen; omega
    have hml2 : (c + 1) * 8 ≤ 140737488355328 := by omega
    by_cases hlt : c < N
    · go_wp2_with (at_builtin; refine wpList_append_own _ rfl _ _ 28 rfl w.heap.size 3 i0 (.int .i64 0) 1 8 Tryd.underlying28 HI.out hz0 hz1 hz2 rfl (by decide) _ _ _ rfl (hown.alloc _) ⟨wr.heap.size, 0, none⟩ 1 1 [.int .i64 0] rfl rfl (cells_one wr _ _) (by simp [Value.oneCell']) hml hml2 (by simp; omega) ?_; intro v' w1 hown' hgrow _)
      go_roundw
      case rel => exact ⟨c + 1, by omega, by go_num, by rw [List.replicate_succ', List.map_append]; exact hown', lgrown_below hB hB1 hown hgrow⟩
      case measure => simp [intOf]; omega
    · obtain rfl : c = N := by omega
      have HO := Lib.hid (show wr.ownsRow w.heap.size 3 1 u8 c ((matUpto [] 7 n (0 * n + 0)).map intV) by
        rw [show 0 * n + 0 = 0 by omega, matUpto_zero, HN.out]; exact hown)
      rcases hown.2 with ⟨_, h0⟩ | ⟨g, cap', cur, rfl, hg, _⟩
      · exact absurd h0 (by omega)
      clear hown
      have Hg := Lib.hid hg
      clear hg
      go_wp2
      clear w1
      go_loopw [10, 11] (fun kk aa ws => ∃ a : Nat, a ≤ n ∧ aa = .int .i64 (a : Int) ∧ kk = .int .i64 ((toldUpto 7 n (a * n + 0)).length : Int) ∧ ws.ownsRow w.heap.size 3 1 (.slice (some ⟨g, 0, none⟩) c cap') c ((matUpto [] 7 n (a * n + 0)).map intV) ∧ Below w.heap.size w ws) (fun _ aa _ => n - (intOf aa).toNat)
      case atStart => exact ⟨0, Nat.zero_le _, rfl, by rw [show 0 * n + 0 = 0 by omega, toldUpto_zero]; rfl, HO.out, hB⟩
      case round =>
        obtain ⟨a, ha, rfl, rfl, hown, hB2⟩ := hrel
        clear HO hB hB1
        by_cases hlta : a < n
        · obtain ⟨t0, ht0⟩ : ∃ t0, (toldUpto 7 n (a * n + 0)).length = t0 := ⟨_, rfl⟩
          rw [ht0]
          have HO := Lib.hid hown
          have HT0 := Lib.hid ht0
          clear hown ht0
          go_wp2
          go_loopw [10, 12] (fun kk bb ws => ∃ b : Nat, b ≤ n ∧ bb = .int .i64 (b : Int) ∧ kk = .int .i64 ((toldUpto 7 n (a * n + b)).length : Int) ∧ ws.ownsRow w.heap.size 3 1 (.slice (some ⟨g, 0, none⟩) c cap') c ((matUpto [] 7 n (a * n + b)).map intV) ∧ Below w.heap.size w ws) (fun _ bb _ => n - (intOf bb).toNat)
          case atStart => exact ⟨0, Nat.zero_le _, rfl, by rw [HT0.out], HO.out, hB2⟩
          case round =>
            obtain ⟨b, hb, rfl, rfl, hown, hB3⟩ := hrel
            clear HO HT0 hB2
            have hlen : (toldUpto 7 n (a * n + b)).length ≤ q := by
              have := toldUpto_le 7 n (a * n + b)
              rw [places_length (by omega) (by omega), ← HL.out, HQ.out] at this
              exact this
            by_cases hltb : b < n
            · have hlen1 := len_next (k := 7) hlta hltb
              have Tab := fun (w : World) => T b a w
              have hcell : cellAt 7 (a, b) = (b, a) := (by simp [cellAt])
              have htold : told 7 a b = tells 7 b a := by unfold told; rw [hcell]
              obtain ⟨t, ht⟩ : ∃ t, (toldUpto 7 n (a * n + b)).length = t := ⟨_, rfl⟩
              rw [ht] at hlen hlen1 ⊢
              cases hx : tells 7 b a with
              | false =>
                rw [hx] at htold
                have Tx : ∀ w : World, Calls Tryd.prog 28 #[.int .i64 7, .int .i64 (b : Int), .int .i64 (a : Int)] w fun e w' => e = .returned (.bool false) ∧ w' = w := fun w => hx ▸ Tab w
                rw [htold] at hlen1
                have HM := Lib.hid (matUpto_none (l := []) hltb htold)
                have HT1 := Lib.hid hlen1
                have HO := Lib.hid hown
                clear hown hx htold hlen1 ht Tab hcell T
                go_wp2_with (go_at_call 28; (with_reducible refine (Tx _).mono ?_); rintro e w5 ⟨rfl, hw5⟩; obtain rfl : wr = w5 := hw5.symm)
                go_roundw
                case rel => exact ⟨b + 1, by omega, by go_num, by rw [← Nat.add_assoc, HT1.out]; simp, by rw [← Nat.add_assoc, HM.out]; exact HO.out, hB3⟩
                case measure => simp [intOf]; omega
              | true =>
                have Tx : ∀ w : World, Calls Tryd.prog 28 #[.int .i64 7, .int .i64 (b : Int), .int .i64 (a : Int)] w fun e w' => e = .returned (.bool true) ∧ w' = w := fun w => hx ▸ Tab w
                have htrue : told 7 a b = true := by rw [htold, hx]
                rw [htrue] at hlen1
                have hpl := places_at (k := 7) hlta hltb htrue
                rw [ht] at hpl
                have htq : t < ([] : List Int).length := by
                  have h2 := (List.getElem?_eq_some_iff.1 hpl).1
                  rw [places_length (by omega) (by omega), ← HL.out] at h2
                  exact h2
                exact absurd htq (by simp)
            · obtain rfl : b = n := by omega
              have HO := Lib.hid hown
              clear hown
              go_wp2
              go_roundw
              case rel => exact ⟨a + 1, by omega, by go_num, by rw [Nat.add_mul, Nat.one_mul]; rfl, by rw [Nat.add_mul, Nat.one_mul]; exact HO.out, hB3⟩
              case measure => simp [intOf]; omega
        · obtain rfl : a = n := by omega
          have HF : Hid (HasInts wr (.slice (some ⟨g, 0, none⟩) c cap') (unpack 7 a [])) := by
            unfold Hid
            have h := hown
            rw [Nat.add_zero, matUpto_all] at h
            refine hasInts_of_owns (base := w.heap.size) (e := 3) ?_
            rw [show (unpack 7 a []).length = c by rw [unpack, grid_length, HN.out]]
            exact h
          clear hown
          go_wp2
          go_ret2
          exact ⟨_, rfl, HF.out, hB2⟩

set_option maxRecDepth 100000 in
theorem Tryd.RUnpack_arg (k n : Int) (ao : Option Addr) (m cap : Nat) (w : World) (h : mayB k n = false) :
    Calls Tryd.prog 19 #[.int .i64 k, .int .i64 n, .slice ao m cap] w fun e w' => e = .returned (.tuple #[.slice none 0 0, .int .i64 1]) ∧ w' = w := by
  have M := fun (w : World) => Tryd.rmay_calls k n w
  rw [h] at M
  go_enter Tryd.func19, Tryd.ntmps19
  go_wp2_with (go_at_call 25; (with_reducible refine (M _).mono ?_); rintro e w1 ⟨rfl, hw1⟩; obtain rfl : w = w1 := hw1.symm)
  go_ret2
  exact ⟨rfl, rfl⟩
set_option maxRecDepth 100000 in
theorem Tryd.RUnpack_len (k n m cap : Nat) (ao : Option Addr) (w : World) (hk : 1 ≤ k) (hk7 : k ≤ 7) (hn : 1 ≤ n) (hn4 : n ≤ 400) (h : m ≠ count k n) :
    Calls Tryd.prog 19 #[.int .i64 (k : Int), .int .i64 (n : Int), .slice ao m cap] w fun e w' => e = .returned (.tuple #[.slice none 0 0, .int .i64 70]) ∧ w' = w := by
  have M := fun (w : World) => Tryd.rmay_calls k n w
  rw [mayB_nat hk hk7 hn hn4] at M
  have C := fun (w : World) => Tryd.RCount_calls k n w hk hk7 hn hn4
  generalize count k n = c at C h
  have d : ((m : Int) != (c : Int)) = true := bne_iff_ne.2 (by omega)
  go_enter Tryd.func19, Tryd.ntmps19
  go_wp2_with (first
    | (go_at_call 25; (with_reducible refine (M _).mono ?_); rintro e w2 ⟨rfl, hw2⟩; obtain rfl : w = w2 := hw2.symm)
    | (go_at_call 11; (with_reducible refine (C _).mono ?_); rintro e w3 ⟨rfl, hw3⟩; obtain rfl : w = w3 := hw3.symm))
  go_ret2
  exact ⟨rfl, rfl⟩
theorem Tryd.RUnpack_calls (k n : Int) (v : Value) (l : List Int) (w : World) (hv : HasInts w v l) :
    Calls Tryd.prog 19 #[.int .i64 k, .int .i64 n, v] w fun e w' => ∃ v', e = .returned (.tuple #[v', .int .i64 (unpackE k n l).2]) ∧ HasInts w' v' (unpackE k n l).1 ∧ Below w.heap.size w w' := by
  obtain ⟨ao, cap, hvs⟩ := hv.len
  cases hm : mayB k n with
  | false =>
    rw [unpackE_arg hm, hvs]
    exact (Tryd.RUnpack_arg k n ao _ cap w hm).mono fun e w' ⟨h1, h2⟩ => ⟨_, h1, HasInts.nil _, h2 ▸ Below.refl _ _⟩
  | true =>
    have hb := mayB_true hm
    obtain ⟨k, rfl⟩ := nat_in (show 0 ≤ k by omega)
    obtain ⟨n, rfl⟩ := nat_in (show 0 ≤ n by omega)
    by_cases hl : l.length = count k n
    · rw [unpackE_ok hm hl]
      rcases hv with ⟨rfl, ao, cap, rfl⟩ | ⟨b, off, cap, rfl, _, _, hd⟩
      · rcases (show k = 1 ∨ k = 6 ∨ k = 7 ∨ (k ≠ 1 ∧ k ≠ 6 ∧ k ≠ 7) by omega) with rfl | rfl | rfl | ⟨h1, h6, h7⟩
        · exact Tryd.RUnpack_one_empty n cap ao w (by omega) (by omega) hl
        · exact Tryd.RUnpack_six_empty n cap ao w (by omega) (by omega) hl
        · exact Tryd.RUnpack_seven_empty n cap ao w (by omega) (by omega) hl
        · exact Tryd.RUnpack_mid_empty k (by omega) (by omega) h1 h6 h7 n cap ao w (by omega) (by omega) hl
      · rcases (show k = 1 ∨ k = 6 ∨ k = 7 ∨ (k ≠ 1 ∧ k ≠ 6 ∧ k ≠ 7) by omega) with rfl | rfl | rfl | ⟨h1, h6, h7⟩
        · exact Tryd.RUnpack_one n b off cap l w (by omega) (by omega) hl hd
        · exact Tryd.RUnpack_six n b off cap l w (by omega) (by omega) hl hd
        · exact Tryd.RUnpack_seven n b off cap l w (by omega) (by omega) hl hd
        · exact Tryd.RUnpack_mid k (by omega) (by omega) h1 h6 h7 n b off cap l w (by omega) (by omega) hl hd
    · rw [unpackE_len hm hl, hvs]
      exact (Tryd.RUnpack_len k n _ cap ao w (by omega) (by omega) (by omega) (by omega) hl).mono fun e w' ⟨h1, h2⟩ => ⟨_, h1, HasInts.nil _, h2 ▸ Below.refl _ _⟩
#print axioms Tryd.RUnpack_calls
end Go.Proofs
