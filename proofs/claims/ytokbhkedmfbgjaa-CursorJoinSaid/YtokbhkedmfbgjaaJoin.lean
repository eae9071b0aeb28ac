/- The law CursorJoin of this program, as a contract. No conditions. -/
import Derived.Test.YtokbhkedmfbgjaaRefMore
import Derived.Test.YtokbhkedmfbgjaaJoinPlain
namespace Go.Proofs
open Go.RowKit Go.Shelf Go.Cur

theorem Try.Lines_has (x : ByteArray) (ps : List (Nat × Nat × Nat)) (hs : x.size ≤ 1000000) (hx : lines x.data.toList = ps) (w : World) :
    Calls Try.prog 10 #[.string x] w fun e w' => ∃ v, e = .returned v ∧ HasLines w' v ps ∧ Below w.heap.size w w' := by
  refine (Try.Lines_calls x w hs).mono ?_
  rintro e w' ⟨v, rfl, h1, h2⟩
  rw [hx] at h1
  exact ⟨v, rfl, hasLines_of_owns h1, h2⟩

set_option maxRecDepth 100000 in
set_option maxHeartbeats 2000000 in
theorem Try.CursorJoin_calls (s t : ByteArray) (w : World) (hs : s.size ≤ maxLen) (ht : t.size ≤ maxLen) :
    Calls Try.prog 7 #[.string s, .string t] w fun e w' => e = .returned (.bool true) ∧ Below w.heap.size w w' := by
  unfold maxLen at hs ht
  by_cases hbig : 1000 < s.size ∨ 1000 < t.size
  · have hpart : decide ((1000 : Int) < (s.size : Int)) = true ∨ (decide ((1000 : Int) < (s.size : Int)) = false ∧ decide ((1000 : Int) < (t.size : Int)) = true) := by
      by_cases h : 1000 < s.size
      · exact .inl (decide_eq_true (by omega))
      · exact .inr ⟨decide_eq_false (by omega), decide_eq_true (by omega)⟩
    clear hbig
    rcases hpart with hd | ⟨hd, hd2⟩
    all_goals
      go_enter Try.func7, Try.ntmps7
      go_wp2_with (go_at_call 9; refine (Try.shown_calls _).mono ?_; rintro e w1 ⟨rfl, hb1⟩)
      go_ret
      exact ⟨rfl, hb1⟩
  · have hd : decide ((1000 : Int) < (s.size : Int)) = false := decide_eq_false (by omega)
    have hd2 : decide ((1000 : Int) < (t.size : Int)) = false := decide_eq_false (by omega)
    have hmx : Try.prog.follows .mixedOrders = true := by kernel_rfl
    obtain ⟨hj, hpos⟩ := lines_join s.data.toList t.data.toList
    have hsl : s.data.toList.length = s.size := by simp
    have q1 : (s ++ (⟨#[10]⟩ : ByteArray)).data.toList = s.data.toList ++ [10] := by rw [ByteArray.data_append, Array.toList_append]
    have q2 : (s ++ (⟨#[10]⟩ : ByteArray) ++ t).data.toList = s.data.toList ++ 10 :: t.data.toList := by rw [ByteArray.data_append, Array.toList_append, q1, List.append_assoc]; rfl
    have z1 : (s ++ (⟨#[10]⟩ : ByteArray)).size ≤ 1000000 := by rw [ByteArray.size_append]; show s.size + 1 ≤ _; omega
    have z2 : (s ++ (⟨#[10]⟩ : ByteArray) ++ t).size ≤ 1000000 := by rw [ByteArray.size_append, ByteArray.size_append]; show s.size + 1 + t.size ≤ _; omega
    have k1 := fun w1 : World => Try.Lines_has _ _ z1 (congrArg lines q1) w1
    have k2 := fun w1 : World => Try.Lines_has t _ (by omega) rfl w1
    have k3 := fun w1 : World => Try.Lines_has _ _ z2 ((congrArg lines q2).trans hj) w1
    rw [hsl] at k3
    have hlx : (lines (s.data.toList ++ [10])).length ≤ 1002 := by
      have h1 := lines_len (s ++ (⟨#[10]⟩ : ByteArray))
      rw [q1, ByteArray.size_append] at h1
      have h2 : (s.size + (⟨#[10]⟩ : ByteArray).size) = s.size + 1 := rfl
      omega
    have hly : (lines t.data.toList).length ≤ 1001 := by have := lines_len t; omega
    have hcY : ∀ k a b c, (lines t.data.toList)[k]? = some (a, b, c) → a ≤ 1001 ∧ b ≤ 1001 ∧ c ≤ 1001 := fun k a b c h => by
      have := lines_get h
      have h2 : t.data.toList.length = t.size := by simp
      omega
    clear hj q1 q2 z1 z2 hsl
    generalize lines (s.data.toList ++ [10]) = X at *
    generalize lines t.data.toList = Y at *
    have K1 := Lib.hid k1
    have K2 := Lib.hid k2
    have K3 := Lib.hid k3
    have HY := Lib.hid hcY
    clear k1 k2 k3 hcY
    have hss : (s.size : Int) ≤ 1000 := by omega
    have htt : (t.size : Int) ≤ 1000 := by omega
    clear hbig
    go_enter Try.func7, Try.ntmps7
    go_wp2_with (go_at_call 9; refine (Try.shown_calls _).mono ?_; rintro e w1 ⟨rfl, hb1⟩)
    refine (K1.out _).mono ?_
    rintro e w2 ⟨v1, rfl, h1, hb2⟩
    have H1 := Lib.hid h1
    clear h1
    go_wp2_with (fail)
    refine (K2.out _).mono ?_
    rintro e w3 ⟨v2, rfl, h2, hb3⟩
    have H2 := Lib.hid h2
    clear h2
    go_wp2_with (fail)
    refine (K3.out _).mono ?_
    rintro e w4 ⟨v3, rfl, h3, hb4⟩
    have h2 := H2.out.below hb4 (Nat.le_refl _)
    have h1 := (H1.out.below hb3 (Nat.le_refl _)).below hb4 (Nat.le_refl _)
    have B : Below w.heap.size w w4 := (hb1.trans (hb2.mono hb1.size)).trans ((hb3.trans (hb4.mono hb3.size)).mono (Nat.le_trans hb1.size hb2.size))
    clear H1 H2 hb1 hb2 hb3 hb4
    rcases h1.split with ⟨hn, _⟩ | ⟨_, g1, cap1, rfl, hg1⟩
    · rw [hn] at hpos; simp at hpos
    rcases h3.split with ⟨hn, _⟩ | ⟨_, g3, cap3, rfl, hg3⟩
    · have := congrArg List.length hn
      simp at this
      have hz : X = [] := this.1
      rw [hz] at hpos
      simp at hpos
    have K1' := Lib.hid h1
    have K3' := Lib.hid h3
    have hl3 : (X ++ Y.map (shift3 (s.size + 1))).length = X.length + Y.length := by simp
    have e3 : (((X ++ Y.map (shift3 (s.size + 1))).length : Nat) : Int) = (X.length : Int) + (Y.length : Int) := by rw [hl3]; omega
    clear h1 h3
    obtain ⟨ao, cap2, rfl, hy⟩ := h2
    have HA := Lib.hid hy
    have HE := Lib.hid hl3
    clear hy e3
    rw [hl3]
    clear hl3
    have t0 : (((X.length : Nat) : Int) == 0) = false := by rw [beq_eq_false_iff_ne]; omega
    go_wp2_with (fail)
    have hx2 : X.length ≤ 1002 := hlx
    have hy2 : Y.length ≤ 1001 := hly
    go_loopw [9] (fun i wr => ∃ k : Nat, k ≤ X.length + Y.length ∧ i = .int .i64 (k : Int) ∧ Below w4.heap.size w4 wr) (fun i _ => X.length + Y.length - (intOf i).toNat)
    case atStart => exact ⟨0, Nat.zero_le _, rfl, Below.refl _ _⟩
    case round =>
      obtain ⟨k, hk, rfl, hB⟩ := hrel
      have hr1 : g1 < wr.heap.size := Nat.lt_of_lt_of_le hg1 hB.size
      have hr3 : g3 < wr.heap.size := Nat.lt_of_lt_of_le hg3 hB.size
      by_cases hlt : k < X.length + Y.length
      · by_cases hkx : k < X.length
        · obtain ⟨⟨a, b, c⟩, hp⟩ : ∃ p, X[k]? = some p := ⟨_, List.getElem?_eq_getElem hkx⟩
          obtain ⟨_, x0, x1, x2⟩ := K1'.out.at hp
          obtain ⟨_, y0, y1, y2⟩ := (HasLines.at (n := (X ++ Y.map (shift3 (s.size + 1))).length) (cap := cap3) (K3'.out) (i := k) (a := a) (b := b) (c := c) (by rw [List.getElem?_append_left hkx]; exact hp))
          replace x0 := (hB.cell (p := ⟨g1, k * 3, none⟩) hg1).trans x0
          replace x1 := (hB.cell (p := ⟨g1, k * 3 + 1, none⟩) hg1).trans x1
          replace x2 := (hB.cell (p := ⟨g1, k * 3 + 2, none⟩) hg1).trans x2
          replace y0 := (hB.cell (p := ⟨g3, k * 3, none⟩) hg3).trans y0
          replace y1 := (hB.cell (p := ⟨g3, k * 3 + 1, none⟩) hg3).trans y1
          replace y2 := (hB.cell (p := ⟨g3, k * 3 + 2, none⟩) hg3).trans y2
          have d1 : decide (k < X.length) = true := decide_eq_true hkx
          have d2 : decide (X.length ≤ k) = false := decide_eq_false (by omega)
          have hkt : (k : Int) < (X.length : Int) := by omega
          clear hp
          go_wp2
          go_quiet (fail)
          go_wp2
          go_roundw
          case rel => exact ⟨k + 1, by omega, by go_num, hB.trans ⟨rfl, rfl, rfl, Nat.le_refl _, fun _ _ => rfl⟩⟩
          case measure => simp [intOf]; omega
        · obtain ⟨j, hkj⟩ : ∃ j, k - X.length = j := ⟨_, rfl⟩
          have hjY : j < Y.length := by omega
          obtain ⟨⟨a, b, c⟩, hp⟩ : ∃ p, Y[j]? = some p := ⟨_, List.getElem?_eq_getElem hjY⟩
          obtain ⟨ba, bb, bc⟩ := HY.out j a b c hp
          obtain ⟨g2, rfl, hg2, x0, x1, x2⟩ := HA.out j a b c hp
          obtain ⟨_, y0, y1, y2⟩ := (HasLines.at (n := (X ++ Y.map (shift3 (s.size + 1))).length) (cap := cap3) (K3'.out) (i := k) (a := a + (s.size + 1)) (b := b + (s.size + 1)) (c := c + (s.size + 1)) (by rw [List.getElem?_append_right (by omega), hkj, List.getElem?_map, hp]; rfl))
          have hr2 : g2 < wr.heap.size := Nat.lt_of_lt_of_le hg2 hB.size
          have ea : ((a + (s.size + 1) : Nat) : Int) = (a : Int) + ((s.size : Int) + 1) := by omega
          have eb : ((b + (s.size + 1) : Nat) : Int) = (b : Int) + ((s.size : Int) + 1) := by omega
          have ec : ((c + (s.size + 1) : Nat) : Int) = (c : Int) + ((s.size : Int) + 1) := by omega
          rw [ea] at y0
          rw [eb] at y1
          rw [ec] at y2
          replace x0 := (hB.cell (p := ⟨g2, j * 3, none⟩) hg2).trans x0
          replace x1 := (hB.cell (p := ⟨g2, j * 3 + 1, none⟩) hg2).trans x1
          replace x2 := (hB.cell (p := ⟨g2, j * 3 + 2, none⟩) hg2).trans x2
          replace y0 := (hB.cell (p := ⟨g3, k * 3, none⟩) hg3).trans y0
          replace y1 := (hB.cell (p := ⟨g3, k * 3 + 1, none⟩) hg3).trans y1
          replace y2 := (hB.cell (p := ⟨g3, k * 3 + 2, none⟩) hg3).trans y2
          have d1 : decide (k < X.length) = false := decide_eq_false hkx
          have d2 : decide (X.length ≤ k) = true := decide_eq_true (by omega)
          have i0 : 0 ≤ (k : Int) - (X.length : Int) := by omega
          have i1 : (k : Int) - (X.length : Int) < (Y.length : Int) := by omega
          have i2 : ((k : Int) - (X.length : Int)).toNat = j := by omega
          have f1 : IntKind.i64.wrap ((a : Int) + ((s.size : Int) + 1)) = (a : Int) + ((s.size : Int) + 1) := IntWalk.i64_in _ (by omega)
          have f2 : IntKind.i64.wrap ((b : Int) + ((s.size : Int) + 1)) = (b : Int) + ((s.size : Int) + 1) := IntWalk.i64_in _ (by omega)
          have f3 : IntKind.i64.wrap ((c : Int) + ((s.size : Int) + 1)) = (c : Int) + ((s.size : Int) + 1) := IntWalk.i64_in _ (by omega)
          have F1 := Lib.hid f1
          have F2 := Lib.hid f2
          have F3 := Lib.hid f3
          have HK := Lib.hid hkj
          clear hp ea eb ec hkj f1 f2 f3
          go_wp2
          go_quiet (fail)
          obtain ⟨w5, hw5⟩ : ∃ w5, w5 = wr.drewN nq := ⟨_, rfl⟩
          rw [← hw5]
          have hB5 : Below w4.heap.size w4 w5 := by rw [hw5]; exact hB.trans ⟨rfl, rfl, rfl, Nat.le_refl _, fun _ _ => rfl⟩
          replace x0 : w5.cell? ⟨g2, j * 3, none⟩ = some (.int .i64 (a : Nat)) := by rw [hw5]; exact x0
          replace x1 : w5.cell? ⟨g2, j * 3 + 1, none⟩ = some (.int .i64 (b : Nat)) := by rw [hw5]; exact x1
          replace x2 : w5.cell? ⟨g2, j * 3 + 2, none⟩ = some (.int .i64 (c : Nat)) := by rw [hw5]; exact x2
          replace y0 : w5.cell? ⟨g3, k * 3, none⟩ = some (.int .i64 ((a : Int) + ((s.size : Int) + 1))) := by rw [hw5]; exact y0
          replace y1 : w5.cell? ⟨g3, k * 3 + 1, none⟩ = some (.int .i64 ((b : Int) + ((s.size : Int) + 1))) := by rw [hw5]; exact y1
          replace y2 : w5.cell? ⟨g3, k * 3 + 2, none⟩ = some (.int .i64 ((c : Int) + ((s.size : Int) + 1))) := by rw [hw5]; exact y2
          replace hr3 : g3 < w5.heap.size := Nat.lt_of_lt_of_le hg3 hB5.size
          replace hr2 : g2 < w5.heap.size := Nat.lt_of_lt_of_le hg2 hB5.size
          clear hw5 hB hr1
          go_wp2
          have f1 := F1.out
          have f2 := F2.out
          have f3 := F3.out
          go_quiet (fail)
          clear f1 f2 f3
          go_wp2
          go_roundw
          case rel => exact ⟨k + 1, by omega, by go_num, (hB5.alloc hB5.size _).trans ⟨rfl, rfl, rfl, Nat.le_refl _, fun _ _ => rfl⟩⟩
          case measure => simp [intOf]; omega
      · have hkk : k = X.length + Y.length := by omega
        subst hkk
        go_wp2
        go_ret
        exact ⟨rfl, B.trans (hB.mono B.size)⟩
#print axioms Try.CursorJoin_calls
end Go.Proofs
