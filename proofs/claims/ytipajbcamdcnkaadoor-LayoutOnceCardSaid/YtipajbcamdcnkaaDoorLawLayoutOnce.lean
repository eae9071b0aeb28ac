/- The law LayoutOnce of layer 7, as a contract: it answers true at every input. Conditions: the array of keywords holds what the card lays. -/
import Derived.Test.YtipajbcamdcnkaaDoorLayoutShown
import Derived.Test.YtipajbcamdcnkaaDoorLayoutPack
namespace Go.Layout
theorem hits_le (k n s x : Nat) : hits k n s x ≤ s := by
  unfold hits
  exact Nat.le_trans List.countP_le_length (by rw [List.length_take]; exact Nat.min_le_left _ _)
/-- How often each place has been met behind s steps. -/
def usedL (k n c s : Nat) : List Int := (List.range c).map fun x => (hits k n s x : Int)
theorem usedL_length (k n c s : Nat) : (usedL k n c s).length = c := by simp [usedL]
theorem usedL_zero (k n c : Nat) : usedL k n c 0 = List.replicate c 0 := by
  unfold usedL
  apply List.ext_getElem?
  intro x
  by_cases hx : x < c
  · simp [hx, hits_zero]
  · rw [List.getElem?_eq_none (by simp; omega), List.getElem?_eq_none (by simp; omega)]
theorem usedL_get {k n c s x : Nat} (hx : x < c) : (usedL k n c s)[x]? = some (hits k n s x : Int) := by simp [usedL, hx]
theorem usedL_same {k n c a b : Nat} (ha : a < n) (hb : b < n) (h : ∀ x, x < c → ((decide (a ≤ b) || decide (k = 1)) && decide (index k n a b = (x : Int))) = false) : usedL k n c (a * n + b + 1) = usedL k n c (a * n + b) := by
  unfold usedL
  refine List.map_congr_left fun x hx => ?_
  have hx := List.mem_range.1 hx
  rw [hits_next ha hb, h x hx]
  simp
theorem usedL_next {k n c a b X : Nat} (ha : a < n) (hb : b < n) (hX : X < c) (h1 : (decide (a ≤ b) || decide (k = 1)) = true) (hI : index k n a b = (X : Int)) : usedL k n c (a * n + b + 1) = (usedL k n c (a * n + b)).set X ((hits k n (a * n + b) X : Int) + 1) := by
  apply List.ext_getElem?
  intro x
  rw [List.getElem?_set]
  by_cases hx : x < c
  · rw [usedL_get hx, hits_next ha hb, h1, hI]
    by_cases e : X = x
    · subst e
      simp [usedL_length, hX]
    · rw [if_neg e, usedL_get hx]
      have : ¬ (X : Int) = (x : Int) := fun q => e (by omega)
      simp [this]
  · rw [List.getElem?_eq_none (by rw [usedL_length]; omega)]
    rw [if_neg (by omega), List.getElem?_eq_none (by rw [usedL_length]; omega)]
theorem index_in {k n i j : Nat} (hk : 1 ≤ k) (hk7 : k ≤ 7) (hi : i < n) (hj : j < n) : (∃ X : Nat, index k n i j = (X : Int) ∧ X < count k n) ∨ (index k n i j = -1 ∧ i = j ∧ k ≠ 1) := by
  by_cases h1 : tells k i j = true
  · exact .inl ⟨_, index_told h1, by have := rank_lt hi hj h1; rwa [places_length hk hk7] at this⟩
  · by_cases h2 : tells k j i = true
    · refine .inl ⟨rank k n j i, ?_, by have := rank_lt hj hi h2; rwa [places_length hk hk7] at this⟩
      unfold index; rw [if_neg h1, if_pos h2]
    · refine .inr ⟨by unfold index; rw [if_neg h1, if_neg h2], tells_none hk hk7 h1 h2, fun e => h1 (by rw [e]; exact tells_full i j)⟩
theorem hits_one {k n x : Nat} (hk : 1 ≤ k) (hk7 : k ≤ 7) (hx : x < count k n) : hits k n (n * n) x = 1 := hits_all hk hk7 (by rw [places_length hk hk7]; exact hx)
end Go.Layout
namespace Go.Proofs
open Go.RowKit Go.Shelf Go.Layout Go.TextTab
attribute [local go_sem] Oper.semAt_some

theorem ownsRow_next {w w' : World} {base : Nat} {e : TypeId} {size : Nat} {v : Value} {k : Nat} {xs : List Value} (h : w.ownsRow base e size v k xs) (hb : Below w.heap.size w w') : w'.ownsRow base e size v k xs :=
  h.kept (hb.grownBy (Nat.le_refl _)) (by cases v.ownBlock <;> simp)
theorem owns_form {W : World} {base : Nat} {e : TypeId} {v : Value} {c : Nat} {xs : List Value} (h : W.ownsRow base e 1 v (c + 1) xs) : ∃ g cap, v = .slice (some ⟨g, 0, none⟩) (c + 1) cap ∧ base ≤ g := by
  rcases h.2 with ⟨_, h0⟩ | ⟨g, cap, cur, hv, hb, _⟩
  · omega
  · exact ⟨g, cap, hv, hb⟩
set_option maxRecDepth 100000 in
set_option maxHeartbeats 4000000 in
theorem Tryd.LayoutOnce_at (A B K M : Nat) (hA : A ≤ 255) (hB : B ≤ 255) (hk : 1 ≤ K) (hk7 : K ≤ 7) (hM : 1 ≤ M) (hM8 : M ≤ 8) (eK : 1 + (A : Int) % 7 = (K : Int)) (eM : 1 + (B : Int) % 8 = (M : Int)) (w : World) (hT : LayTab w) :
    Calls Tryd.prog 7 #[.int .u8 (A : Int), .int .u8 (B : Int)] w fun e w' => e = .returned (.bool true) ∧ Below w.heap.size w w' := by
  obtain ⟨i0, hi, hz0, hz1, hz2⟩ := info_parts Tryd.info3
  have HI := Lib.hid hi
  have HT := Lib.hid hT
  have C := fun (w : World) => Tryd.Count_in K M w hk hk7 hM (by omega)
  have hcm : count K M ≤ 64 := by
    rw [← rowsUp_count hk hk7]
    have h1 := rowsUp_le K M M
    have h2 : M * M ≤ 8 * 8 := Nat.mul_le_mul hM8 hM8
    omega
  have hone := fun x (hx : x < count K M) => hits_one (n := M) hk hk7 hx
  have hin := fun i j (h1 : i < M) (h2 : j < M) => index_in (k := K) (n := M) hk hk7 h1 h2
  have hX : ∀ (i j : Nat), i < M → j < M → ∀ W : World, Calls Tryd.prog 12 #[.int .i64 (K : Int), .int .i64 (M : Int), .int .i64 (i : Int), .int .i64 (j : Int)] W fun e w' => e = .returned (.int .i64 (index K M i j)) ∧ Below W.heap.size W w' := fun i j h1 h2 W => by
    have := Tryd.Index_any K M i j W
    rwa [indexE_in hk hk7 (by omega) h1 h2] at this
  obtain ⟨c, hc⟩ : ∃ c, count K M = c := ⟨_, rfl⟩
  rw [hc] at C hcm hone hin
  have HC := Lib.hid C
  have HONE := Lib.hid hone
  have HIN := Lib.hid hin
  have HX := Lib.hid hX
  clear hi hT C hone hin hX hc
  go_enter Tryd.func7, Tryd.ntmps7
  go_wp2_with (fail)
  refine (HC.out _).mono ?_
  rintro e w0 ⟨rfl, hb0⟩
  clear eK eM HC hA hB
  go_wp2
  go_loopw [8, 9] (fun u i ws => ∃ t g cap, t ≤ c ∧ i = .int .i64 (t : Int) ∧ u = .slice (some ⟨g, 0, none⟩) t cap ∧ w0.heap.size ≤ g ∧ ws.ownsRow w0.heap.size 3 1 (.slice (some ⟨g, 0, none⟩) t cap) t ((List.replicate t 0).map intV) ∧ Below w0.heap.size w0 ws) (fun _ i _ => c - (intOf i).toNat)
  case atStart => exact ⟨0, w0.heap.size, 0, Nat.zero_le _, rfl, rfl, Nat.le_refl _, owns_empty1 w0 3, (Below.refl _ w0).alloc (Nat.le_refl _) _⟩
  case round =>
    obtain ⟨t, g, cap, ht, rfl, rfl, hg, hown, hB1⟩ := hrel
    have hB2 : w0.heap.size ≤ wr.heap.size := hB1.size
    have hml : t + 1 ≤ maxLen := by unfold maxLen; omega
    have hml2 : (t + 1) * 8 ≤ 140737488355328 := by omega
    by_cases hlt : t < c
    · go_wp2_with (at_builtin; refine wpList_append_own _ rfl _ _ 28 rfl w0.heap.size 3 i0 (.int .i64 0) 1 8 Tryd.underlying28 HI.out hz0 hz1 hz2 rfl (by decide) _ _ _ rfl (hown.alloc _) ⟨wr.heap.size, 0, none⟩ 1 1 [.int .i64 0] rfl rfl (cells_one wr _ _) (by simp [Value.oneCell']) hml hml2 (by simp; omega) ?_; intro v' w1 hown' hgrow _)
      obtain ⟨g', cap', rfl, hg'⟩ := owns_form hown'
      go_roundw
      case rel => exact ⟨t + 1, g', cap', by omega, by go_num, rfl, hg', by rw [List.replicate_succ', List.map_append]; exact hown', lgrown_below hB1 hB2 hown hgrow⟩
      case measure => simp [intOf]; omega
    · obtain rfl : t = c := by omega
      have HO := Lib.hid (show wr.ownsRow w0.heap.size 3 1 (.slice (some ⟨g, 0, none⟩) t cap) t ((usedL K M t (0 * M + 0)).map intV) by
        rw [show 0 * M + 0 = 0 by omega, usedL_zero]; exact hown)
      clear hown hml hml2
      go_wp2
      go_loopw [10] (fun ii ws => ∃ i : Nat, i ≤ M ∧ ii = .int .i64 (i : Int) ∧ ws.ownsRow w0.heap.size 3 1 (.slice (some ⟨g, 0, none⟩) t cap) t ((usedL K M t (i * M + 0)).map intV) ∧ Below w0.heap.size w0 ws) (fun ii _ => M - (intOf ii).toNat)
      case atStart => exact ⟨0, Nat.zero_le _, rfl, HO.out, hB1⟩
      case round =>
        obtain ⟨i, hi, rfl, hown, hB3⟩ := hrel
        clear HO hB1 hB2
        by_cases hlti : i < M
        · have HO := Lib.hid hown
          clear hown
          go_wp2
          go_loopw [11] (fun jj ws => ∃ j : Nat, j ≤ M ∧ jj = .int .i64 (j : Int) ∧ ws.ownsRow w0.heap.size 3 1 (.slice (some ⟨g, 0, none⟩) t cap) t ((usedL K M t (i * M + j)).map intV) ∧ Below w0.heap.size w0 ws) (fun jj _ => M - (intOf jj).toNat)
          case atStart => exact ⟨0, Nat.zero_le _, rfl, HO.out, hB3⟩
          case round =>
            obtain ⟨j, hj, rfl, hown, hB4⟩ := hrel
            clear HO hB3
            by_cases hltj : j < M
            · have hxi := HX.out i j hlti hltj
              have hxj := HX.out j i hltj hlti
              have hsw := fun (h : K ≠ 1) => index_swap (k := K) (n := M) (i := i) (j := j) h hk hk7
              have hsame := fun h => usedL_same (k := K) (c := t) hlti hltj h
              have hset := fun X h1 h2 h3 => usedL_next (k := K) (c := t) (X := X) hlti hltj h1 h2 h3
              have hcase := HIN.out i j hlti hltj
              have HO := Lib.hid hown
              clear hown
              by_cases hK1 : K = 1
              · have k1 : ((K : Int) == 1) = true := beq_iff_eq.2 (by omega)
                have k2 : ((K : Int) != 1) = false := by rw [hK1]; rfl
                obtain ⟨X, hI, hX⟩ := hcase.resolve_right (fun h => h.2.2 hK1)
                rw [hI] at hxi
                have HK1 := Lib.hid hK1
                have x1 : decide ((X : Int) < -1) = false := decide_eq_false (by omega)
                have x2 : decide ((t : Int) ≤ (X : Int)) = false := decide_eq_false (by omega)
                have x3 : ((X : Int) == -1) = false := beq_eq_false_iff_ne.2 (by omega)
                by_cases hle : i ≤ j
                · have dle : decide ((i : Int) ≤ (j : Int)) = true := decide_eq_true (by omega)
                  have HS0 := Lib.hid (hset X hX (by simp [hle]) hI)
                  clear hset hsame hI hxj hsw hK1 hcase
                  go_wp2_with (fail)
                  refine (hxi _).mono ?_
                  rintro e WW ⟨rfl, hbi⟩
                  have hB5 := hB4.trans (hbi.mono hB4.size)
                  have HO1 := Lib.hid (ownsRow_next HO.out hbi)
                  have hit := hits_le K M (i * M + j) X
                  have hs : i * M + j ≤ 72 := by have : i * M ≤ 8 * 8 := Nat.mul_le_mul (by omega) hM8; omega
                  have y0 : WW.cell? ⟨g, X, none⟩ = some (.int .i64 (hits K M (i * M + j) X : Int)) := by
                    rw [World.ownsRow.cellAt HO1.out X (by omega), List.getElem?_map, usedL_get hX]
                    rfl
                  have f0 := World.ownsRow.frozenAt HO1.out X
                  have HS := HS0
                  obtain ⟨h, hh⟩ : ∃ h, hits K M (i * M + j) X = h := ⟨_, rfl⟩
                  rw [hh] at hit HS y0
                  have o1 := (World.ownsRow.stored HO1.out X (intV ((h : Int) + 1))).1
                  rw [map_set] at o1
                  have h64 : h ≤ 72 := by omega
                  have HOO := Lib.hid o1
                  have iX : (X : Int) < (t : Int) := by omega
                  clear o1 HS0 hit hs hh
                  go_wp2
                  go_roundw
                  case rel => exact ⟨j + 1, by omega, by go_num, by rw [← Nat.add_assoc, HS.out]; exact HOO.out, lset_below hB5 hg _⟩
                  case measure => simp [intOf]; omega
                · have dle : decide ((i : Int) ≤ (j : Int)) = false := decide_eq_false (by omega)
                  have HS0 := Lib.hid (hset X hX (by simp [HK1.out]) hI)
                  clear hset hsame hI hxj hsw hK1 hcase
                  go_wp2_with (fail)
                  refine (hxi _).mono ?_
                  rintro e WW ⟨rfl, hbi⟩
                  have hB5 := hB4.trans (hbi.mono hB4.size)
                  have HO1 := Lib.hid (ownsRow_next HO.out hbi)
                  have hit := hits_le K M (i * M + j) X
                  have hs : i * M + j ≤ 72 := by have : i * M ≤ 8 * 8 := Nat.mul_le_mul (by omega) hM8; omega
                  have y0 : WW.cell? ⟨g, X, none⟩ = some (.int .i64 (hits K M (i * M + j) X : Int)) := by
                    rw [World.ownsRow.cellAt HO1.out X (by omega), List.getElem?_map, usedL_get hX]
                    rfl
                  have f0 := World.ownsRow.frozenAt HO1.out X
                  have HS := HS0
                  obtain ⟨h, hh⟩ : ∃ h, hits K M (i * M + j) X = h := ⟨_, rfl⟩
                  rw [hh] at hit HS y0
                  have o1 := (World.ownsRow.stored HO1.out X (intV ((h : Int) + 1))).1
                  rw [map_set] at o1
                  have h64 : h ≤ 72 := by omega
                  have HOO := Lib.hid o1
                  have iX : (X : Int) < (t : Int) := by omega
                  clear o1 HS0 hit hs hh
                  go_wp2
                  go_roundw
                  case rel => exact ⟨j + 1, by omega, by go_num, by rw [← Nat.add_assoc, HS.out]; exact HOO.out, lset_below hB5 hg _⟩
                  case measure => simp [intOf]; omega
              · have k1 : ((K : Int) == 1) = false := beq_eq_false_iff_ne.2 (by omega)
                have k2 : ((K : Int) != 1) = true := bne_iff_ne.2 (by omega)
                have hsw := hsw hK1
                rw [hsw] at hxj
                rcases hcase with ⟨X, hI, hX⟩ | ⟨hI, hij, _⟩
                · rw [hI] at hxi hxj
                  have x1 : decide ((X : Int) < -1) = false := decide_eq_false (by omega)
                  have x2 : decide ((t : Int) ≤ (X : Int)) = false := decide_eq_false (by omega)
                  have x3 : ((X : Int) == -1) = false := beq_eq_false_iff_ne.2 (by omega)
                  have xx : ((X : Int) != (X : Int)) = false := bne_self_eq_false _
                  by_cases hle : i ≤ j
                  · have dle : decide ((i : Int) ≤ (j : Int)) = true := decide_eq_true (by omega)
                    have HS0 := Lib.hid (hset X hX (by simp [hle]) hI)
                    clear hset hsame hI hK1 hsw
                    go_wp2_with (fail)
                    refine (hxi _).mono ?_
                    rintro e WW ⟨rfl, hbi⟩
                    have hB5 := hB4.trans (hbi.mono hB4.size)
                    have HO1 := Lib.hid (ownsRow_next HO.out hbi)
                    go_wp2_with (fail)
                    refine (hxj _).mono ?_
                    rintro e WW2 ⟨rfl, hbj⟩
                    have hB6 := hB5.trans (hbj.mono hB5.size)
                    have HO2 := Lib.hid (ownsRow_next HO1.out hbj)
                    have hit := hits_le K M (i * M + j) X
                    have hs : i * M + j ≤ 72 := by have : i * M ≤ 8 * 8 := Nat.mul_le_mul (by omega) hM8; omega
                    have y0 : WW2.cell? ⟨g, X, none⟩ = some (.int .i64 (hits K M (i * M + j) X : Int)) := by
                      rw [World.ownsRow.cellAt HO2.out X (by omega), List.getElem?_map, usedL_get hX]
                      rfl
                    have f0 := World.ownsRow.frozenAt HO2.out X
                    have HS := HS0
                    obtain ⟨h, hh⟩ : ∃ h, hits K M (i * M + j) X = h := ⟨_, rfl⟩
                    rw [hh] at hit HS y0
                    have o1 := (World.ownsRow.stored HO2.out X (intV ((h : Int) + 1))).1
                    rw [map_set] at o1
                    have h64 : h ≤ 72 := by omega
                    have HOO := Lib.hid o1
                    have iX : (X : Int) < (t : Int) := by omega
                    clear o1 HS0 hit hs hh
                    go_wp2
                    go_roundw
                    case rel => exact ⟨j + 1, by omega, by go_num, by rw [← Nat.add_assoc, HS.out]; exact HOO.out, lset_below hB6 hg _⟩
                    case measure => simp [intOf]; omega
                  · have dle : decide ((i : Int) ≤ (j : Int)) = false := decide_eq_false (by omega)
                    have HS := Lib.hid (hsame (fun x _ => by simp [hle, hK1]))
                    clear hset hsame hI hK1 hsw
                    go_wp2_with (fail)
                    refine (hxi _).mono ?_
                    rintro e WW ⟨rfl, hbi⟩
                    have hB5 := hB4.trans (hbi.mono hB4.size)
                    have HO1 := Lib.hid (ownsRow_next HO.out hbi)
                    go_wp2_with (fail)
                    refine (hxj _).mono ?_
                    rintro e WW2 ⟨rfl, hbj⟩
                    have hB6 := hB5.trans (hbj.mono hB5.size)
                    have HO2 := Lib.hid (ownsRow_next HO1.out hbj)
                    go_wp2
                    go_roundw
                    case rel => exact ⟨j + 1, by omega, by go_num, by rw [← Nat.add_assoc, HS.out]; exact HO2.out, hB6⟩
                    case measure => simp [intOf]; omega
                · rw [hI] at hxi hxj
                  have HS := Lib.hid (hsame (fun x _ => by rw [hI]; have : ¬ ((-1 : Int) = (x : Int)) := by omega
                                                           simp [this]))
                  have dij : ((i : Int) != (j : Int)) = false := by rw [hij]; exact bne_self_eq_false _
                  have y2 : decide ((t : Int) ≤ -1) = false := decide_eq_false (by omega)
                  have HIJ := Lib.hid hij
                  clear hset hsame hI hK1 hsw hij
                  go_wp2_with (fail)
                  refine (hxi _).mono ?_
                  rintro e WW ⟨rfl, hbi⟩
                  have hB5 := hB4.trans (hbi.mono hB4.size)
                  have HO1 := Lib.hid (ownsRow_next HO.out hbi)
                  go_wp2_with (fail)
                  refine (hxj _).mono ?_
                  rintro e WW2 ⟨rfl, hbj⟩
                  have hB6 := hB5.trans (hbj.mono hB5.size)
                  have HO2 := Lib.hid (ownsRow_next HO1.out hbj)
                  go_wp2
                  go_roundw
                  case rel => exact ⟨j + 1, by omega, by go_num, by rw [← Nat.add_assoc, HS.out]; exact HO2.out, hB6⟩
                  case measure => simp [intOf]; omega
            · obtain rfl : j = M := by omega
              have HO := Lib.hid hown
              clear hown
              go_wp2
              go_roundw
              case rel => exact ⟨i + 1, by omega, by go_num, by rw [Nat.add_mul, Nat.one_mul]; exact HO.out, hB4⟩
              case measure => simp [intOf]; omega
        · obtain rfl : i = M := by omega
          rw [Nat.add_zero] at hown
          have HO := Lib.hid hown
          clear hown
          go_wp2
          go_loop [13] (fun q => ∃ x : Nat, x ≤ t ∧ q = .int .i64 (x : Int)) (fun q => t - (intOf q).toNat)
          case atStart => exact ⟨0, Nat.zero_le _, rfl⟩
          case round =>
            obtain ⟨x, hx, rfl⟩ := hrel
            by_cases hltx : x < t
            · have x0 : wr.cell? ⟨g, x, none⟩ = some (.int .i64 1) := by
                rw [World.ownsRow.cellAt HO.out x (by omega), List.getElem?_map, usedL_get hltx, HONE.out x hltx]
                rfl
              have ix : (x : Int) < (t : Int) := by omega
              go_wp2
              go_round
              case rel => exact ⟨x + 1, by omega, by go_num⟩
              case measure => simp [intOf]; omega
            · obtain rfl : x = t := by omega
              have S := Tryd.shown_calls wr (HT.out.below (hb0.trans (hB3.mono hb0.size)))
              go_wp2_with (go_at_call 9; (with_reducible refine S.mono ?_); rintro e w3 ⟨rfl, hb⟩)
              go_ret
              exact ⟨rfl, (hb0.trans (hB3.mono hb0.size)).trans (hb.mono (Nat.le_trans hb0.size hB3.size))⟩
theorem Tryd.LayoutOnce_calls (a b : Int) (ha : (Lit.int .u8 a).wf = true) (hb : (Lit.int .u8 b).wf = true) (w : World) (hT : LayTab w) :
    Calls Tryd.prog 7 #[.int .u8 a, .int .u8 b] w fun e w' => e = .returned (.bool true) ∧ Below w.heap.size w w' := by
  have h1 : 0 ≤ a ∧ a ≤ 255 := by
    simp only [Lit.wf, Bool.and_eq_true, decide_eq_true_eq] at ha
    exact ha
  have h2 : 0 ≤ b ∧ b ≤ 255 := by
    simp only [Lit.wf, Bool.and_eq_true, decide_eq_true_eq] at hb
    exact hb
  obtain ⟨A, rfl⟩ := nat_in h1.1
  obtain ⟨B, rfl⟩ := nat_in h2.1
  exact Tryd.LayoutOnce_at A B (1 + A % 7) (1 + B % 8) (by omega) (by omega) (by omega) (by omega) (by omega) (by omega) (by omega) (by omega) w hT
#print axioms Tryd.LayoutOnce_calls
end Go.Proofs
