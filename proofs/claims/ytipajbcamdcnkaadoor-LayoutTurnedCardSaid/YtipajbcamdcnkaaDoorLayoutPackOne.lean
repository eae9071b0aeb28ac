/- The document's own answer for layout.Pack, at some of the layouts. Conditions: a matrix of as many numbers as there should be. -/
import Derived.Test.YtipajbcamdcnkaaDoorLayoutPack
namespace Go.Proofs
open Go.RowKit Go.Shelf Go.Layout Go.Sort
attribute [local go_sem] Oper.semAt_some

set_option maxRecDepth 100000 in
set_option maxHeartbeats 4000000 in
theorem Tryd.RPack_one (n b0 off cap : Nat) (l : List Int) (w : World) (hn : 1 ≤ n) (hn4 : n ≤ 400) (hl : l.length = n * n) (hd : IntAt w b0 off l) :
    Calls Tryd.prog 22 #[.int .i64 1, .int .i64 (n : Int), .slice (some ⟨b0, off, none⟩) l.length cap] w fun e w' => (fits 1 n l → ∃ v', e = .returned (.tuple #[v', .int .i64 0]) ∧ HasInts w' v' (pack 1 n l)) ∧ (¬ fits 1 n l → e = .returned (.tuple #[.slice none 0 0, .int .i64 70])) ∧ Below w.heap.size w w' := by
  obtain ⟨i0, hi, hz0, hz1, hz2⟩ := info_parts Tryd.info3
  have HI := Lib.hid hi
  have M := fun (w : World) => Tryd.rmay_calls (1 : Nat) n w
  rw [mayB_nat (by omega) (by omega) hn hn4] at M
  have T := fun (i j : Nat) (w : World) => Tryd.rtells_calls 1 i j w (by omega) (by omega)
  (try simp only [Int.natCast_one] at M T)
  have h1 : n * n ≤ 160000 := Nat.mul_le_mul hn4 hn4
  have w1 : wrap64 ((n : Int) * (n : Int)) = ((n * n : Nat) : Int) := by rw [show (n : Int) * (n : Int) = ((n * n : Nat) : Int) by simp]; unfold wrap64; omega
  rw [hl]
  obtain ⟨N, hN⟩ : ∃ N, n * n = N := ⟨_, rfl⟩
  rw [hN] at h1 w1 hl ⊢
  have HN := Lib.hid hN
  have HL := Lib.hid hl
  have HD := Lib.hid hd
  clear hN hl hd hi
  go_enter Tryd.func22, Tryd.ntmps22
  go_wp2_with (go_at_call 25; (with_reducible refine (M _).mono ?_); rintro e w2 ⟨rfl, hw2⟩; obtain rfl : w = w2 := hw2.symm)
  clear M w1
  go_loopw [8, 9] (fun ll aa ws => ∃ a : Nat, a ≤ n ∧ aa = .int .i64 (a : Int) ∧ Hid (fitsUpto 1 n l (a * n + 0)) ∧ ws.ownsRow w.heap.size 3 1 ll (packUpto l 1 n (a * n + 0)).length ((packUpto l 1 n (a * n + 0)).map intV) ∧ Below w.heap.size w ws) (fun _ aa _ => n - (intOf aa).toNat)
  case atStart => exact ⟨0, Nat.zero_le _, rfl, by rw [show 0 * n + 0 = 0 by omega]; exact fitsUpto_zero _ _ _, by rw [show 0 * n + 0 = 0 by omega, packUpto_zero]; exact owns_empty1 w 3, (Below.refl _ w).alloc (Nat.le_refl _) _⟩
  case round =>
    obtain ⟨a, ha, rfl, hF, hown, hB2⟩ := hrel
    by_cases hlta : a < n
    · have HO := Lib.hid hown
      clear hown
      go_wp2
      go_loopw [8, 10] (fun ll bb ws => ∃ b : Nat, b ≤ n ∧ bb = .int .i64 (b : Int) ∧ Hid (fitsUpto 1 n l (a * n + b)) ∧ ws.ownsRow w.heap.size 3 1 ll (packUpto l 1 n (a * n + b)).length ((packUpto l 1 n (a * n + b)).map intV) ∧ Below w.heap.size w ws) (fun _ bb _ => n - (intOf bb).toNat)
      case atStart => exact ⟨0, Nat.zero_le _, rfl, hF, HO.out, hB2⟩
      case round =>
        obtain ⟨b, hb, rfl, hFb, hown, hB3⟩ := hrel
        clear HO hB2 hF
        by_cases hltb : b < n
        · have hcell : cellAt 1 (a, b) = (a, b) := (by simp [cellAt])
          have htold : told 1 a b = tells 1 a b := by unfold told; rw [hcell]
          have hB4 : w.heap.size ≤ wr.heap.size := hB3.size
          have hfit := fun hg => fitsUpto_next (m := l) hltb hcell hFb.out hg
          have hbadx := fun hg => not_fits (m := l) hlta hltb hcell hg
          have s1 := step_lt (n := n) (a := a) (b := b) (by omega) (by omega)
          have s2 := step_lt (n := n) (a := b) (b := a) (by omega) (by omega)
          rw [HN.out] at s1 s2
          have wi := wrap_mul (i := a) (n := n) (by omega)
          have wj := wrap_mul (i := b) (n := n) (by omega)
          obtain ⟨x, hx, ex⟩ := cell_some HL.out s1
          obtain ⟨y, hy, ey⟩ := cell_some HL.out s2
          have hb0 := HD.out.1
          have x0 := (hB3.cell (p := ⟨b0, off + (a * n + b), none⟩) hb0).trans (HD.out.2 _ x hx)
          have y0 := (hB3.cell (p := ⟨b0, off + (b * n + a), none⟩) hb0).trans (HD.out.2 _ y hy)
          have hplen := packUpto_most (m := l) (k := 1) (s := a * n + b) hn4
          have hno := packUpto_no (m := l) hlta hltb hcell
          have hyes := packUpto_yes (m := l) hlta hltb hcell
          rw [htold] at hno hyes
          rw [ex] at hyes
          obtain ⟨P, hP⟩ : ∃ P, packUpto l 1 n (a * n + b) = P := ⟨_, rfl⟩
          rw [hP] at hown hplen hno hyes
          obtain ⟨hml, hml2⟩ := room_of hplen
          obtain ⟨u, hu⟩ : ∃ u, a * n = u := ⟨_, rfl⟩
          obtain ⟨v, hv⟩ : ∃ v, b * n = v := ⟨_, rfl⟩
          have ux : off + (a * n + b) = off + (u + b) := by rw [hu]
          have uy : off + (b * n + a) = off + (v + a) := by rw [hv]
          rw [ux] at x0
          rw [uy] at y0
          rw [hu] at s1 wi
          rw [hv] at s2 wj
          have i1 : (u : Int) + (b : Int) < (N : Int) := by omega
          have i2 : (v : Int) + (a : Int) < (N : Int) := by omega
          have Tij := fun (w : World) => T a b w
          have Tii := fun (w : World) => T a a w
          clear hplen ux uy hb0 hx hy T
          have ht : tells 1 a b = true := tells_full _ _
          have hii : tells 1 a a = true := tells_full _ _
          have hgb : bad 1 n l a b = false := by simp [bad, tells_full]
          rw [ht] at Tij
          rw [hii] at Tii
          by_cases hij : a = b
          · subst hij
            have HF := Lib.hid (hfit hgb)
            have HY := Lib.hid (hyes ht)
            clear hfit hbadx hyes hno hgb hFb htold hcell ex ey ht
            go_wp2_with fail
            go_quiet ((go_at_call 28; with_reducible exact Calls.quiet_of_same (Tii _)))
            obtain ⟨w6, h6w⟩ : ∃ w6, w6 = wr.drewN nq := ⟨_, rfl⟩
            have x6 : w6.cell? ⟨b0, off + (u + a), none⟩ = some (.int .i64 x) := by rw [h6w]; exact x0
            have o6 : w6.ownsRow w.heap.size 3 1 u8 P.length (P.map intV) := by rw [h6w]; exact ldrew_owns hown _
            have B6 : Below w.heap.size w w6 := by rw [h6w]; exact lbelow_drewN hB3 _
            have b6 : w.heap.size ≤ w6.heap.size := B6.size
            rw [← h6w]
            clear h6w x0 hown hB3 hB4
            go_wp2_with (first
              | (go_at_call 28; (with_reducible refine (Tij _).mono ?_); rintro e w5 ⟨rfl, hw5⟩; obtain rfl : w6 = w5 := hw5.symm)
              | (at_builtin; refine wpList_append_own _ rfl _ _ 28 rfl w.heap.size 3 i0 (.int .i64 0) 1 8 Tryd.underlying28 HI.out hz0 hz1 hz2 rfl (by decide) _ _ _ rfl (o6.alloc _) ⟨w6.heap.size, 0, none⟩ 1 1 [.int .i64 x] rfl rfl (cells_one w6 _ _) (by simp [Value.oneCell']) hml hml2 (by simp; omega) ?_; intro v' w1 hown' hgrow _))
            go_roundw
            case rel => exact ⟨a + 1, by omega, by go_num, HF, by rw [← Nat.add_assoc, HY.out, List.map_append, List.length_append]; exact hown', lgrown_below B6 b6 o6 hgrow⟩
            case measure => simp [intOf]; omega
          · have e1 : ((a : Int) == (b : Int)) = false := beq_eq_false_iff_ne.2 (by omega)
            have HF := Lib.hid (hfit hgb)
            have HY := Lib.hid (hyes ht)
            clear hfit hbadx hyes hno hgb hFb htold hcell ex ey ht Tii
            go_wp2_with fail
            go_quiet (fail)
            obtain ⟨w6, h6w⟩ : ∃ w6, w6 = wr.drewN nq := ⟨_, rfl⟩
            have x6 : w6.cell? ⟨b0, off + (u + b), none⟩ = some (.int .i64 x) := by rw [h6w]; exact x0
            have o6 : w6.ownsRow w.heap.size 3 1 u8 P.length (P.map intV) := by rw [h6w]; exact ldrew_owns hown _
            have B6 : Below w.heap.size w w6 := by rw [h6w]; exact lbelow_drewN hB3 _
            have b6 : w.heap.size ≤ w6.heap.size := B6.size
            rw [← h6w]
            clear h6w x0 hown hB3 hB4
            go_wp2_with (first
              | (go_at_call 28; (with_reducible refine (Tij _).mono ?_); rintro e w5 ⟨rfl, hw5⟩; obtain rfl : w6 = w5 := hw5.symm)
              | (at_builtin; refine wpList_append_own _ rfl _ _ 28 rfl w.heap.size 3 i0 (.int .i64 0) 1 8 Tryd.underlying28 HI.out hz0 hz1 hz2 rfl (by decide) _ _ _ rfl (o6.alloc _) ⟨w6.heap.size, 0, none⟩ 1 1 [.int .i64 x] rfl rfl (cells_one w6 _ _) (by simp [Value.oneCell']) hml hml2 (by simp; omega) ?_; intro v' w1 hown' hgrow _))
            go_roundw
            case rel => exact ⟨b + 1, by omega, by go_num, HF, by rw [← Nat.add_assoc, HY.out, List.map_append, List.length_append]; exact hown', lgrown_below B6 b6 o6 hgrow⟩
            case measure => simp [intOf]; omega
        · obtain rfl : b = n := by omega
          have HO := Lib.hid hown
          clear hown
          go_wp2
          go_roundw
          case rel => exact ⟨a + 1, by omega, by go_num, by rw [Nat.add_mul, Nat.one_mul]; exact hFb, by rw [Nat.add_mul, Nat.one_mul]; exact HO.out, hB3⟩
          case measure => simp [intOf]; omega
    · obtain rfl : a = n := by omega
      have HX : Hid (HasInts wr u8 (pack 1 a l)) := by
        unfold Hid
        have h := hown
        rw [Nat.add_zero, packUpto_all] at h
        exact hasInts_of_owns h
      have HF : Hid (fits 1 a l) := by
        have h := hF.out
        rw [Nat.add_zero] at h
        exact fitsUpto_all.1 h
      clear hown
      go_wp2
      go_ret2
      exact ⟨fun _ => ⟨_, rfl, HX.out⟩, fun h => absurd HF.out h, hB2⟩
end Go.Proofs
