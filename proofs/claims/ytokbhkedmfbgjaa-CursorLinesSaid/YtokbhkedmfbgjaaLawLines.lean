/- The law CursorLines of this program, as a contract. No conditions. -/
import Derived.Test.YtokbhkedmfbgjaaRefRows
import Derived.Lib.QuietBelow
namespace Go.Proofs
open Go.RowKit Go.Shelf Go.Cur Go.Sort

theorem hl_of {W W' : World} {v : Value} {ps : List (Nat × Nat × Nat)} (h : HasLines W v ps) (hb : Below W.heap.size W W') : HasLines W' v ps := h.below hb (Nat.le_refl _)
theorem bl {a b c : World} (h : Below a.heap.size a b) (k : Below b.heap.size b c) : Below a.heap.size a c := h.trans (k.mono h.size)

set_option maxRecDepth 100000 in
set_option maxHeartbeats 2000000 in
theorem Try.CursorLines_calls (s : ByteArray) (w : World) (hs : s.size ≤ maxLen) :
    Calls Try.prog 3 #[.string s] w fun e w' => e = .returned (.bool true) ∧ Below w.heap.size w w' := by
  unfold maxLen at hs
  by_cases hbig : 2000 < s.size
  · have hd : decide ((2000 : Int) < (s.size : Int)) = true := decide_eq_true (by omega)
    clear hbig
    go_enter Try.func3, Try.ntmps3
    go_wp2_with (go_at_call 9; refine (Try.shown_calls _).mono ?_; rintro e w1 ⟨rfl, hb1⟩)
    go_ret
    exact ⟨rfl, hb1⟩
  · have hd : decide ((2000 : Int) < (s.size : Int)) = false := decide_eq_false (by omega)
    have hs2 : s.size ≤ 1000000 := by omega
    have hmx : Try.prog.follows .mixedOrders = true := by kernel_rfl
    have hln := lines_len s
    have hln2 : (lines s.data.toList).length ≤ 2000000 := by omega
    have hro2 : (rowsOf s.data.toList).length ≤ 2000000 := by
      have := List.length_filter_le (bare s.data.toList) (lines s.data.toList)
      unfold rowsOf; omega
    have HL2 := Lib.hid hln2
    have HR2 := Lib.hid hro2
    clear hbig hln2 hro2 hs
    go_enter Try.func3, Try.ntmps3
    go_wp2_with (go_at_call 9; refine (Try.shown_calls _).mono ?_; rintro e w1 ⟨rfl, hb1⟩)
    refine (Try.Lines_calls s _ hs2).mono ?_
    rintro e w2 ⟨v1, rfl, ho1, hb2⟩
    have H1 := Lib.hid (hasLines_of_owns ho1)
    clear ho1
    go_wp2_with (fail)
    refine (Try.rLines_calls s _ hs2).mono ?_
    rintro e w3 ⟨v2, rfl, ho2, hb3⟩
    have H2 := Lib.hid (hasLines_of_owns ho2)
    clear ho2
    go_wp2_with (fail)
    refine (Try.its_calls v1 _ _ HL2.out (hl_of H1.out hb3)).mono ?_
    rintro e w4 ⟨v3, rfl, ho3, hb4⟩
    have H3 := Lib.hid (hasLines_of_owns ho3)
    clear ho3
    go_wp2_with (fail)
    refine (Try.Same_calls v3 v2 _ _ HL2.out H3.out (hl_of H2.out hb4)).mono ?_
    rintro e w5 ⟨rfl, hb5⟩
    go_wp2_with (fail)
    refine (Try.Rows_calls s _ hs2).mono ?_
    rintro e w6 ⟨v4, rfl, ho4, hb6⟩
    have H4 := Lib.hid (hasLines_of_owns ho4)
    clear ho4
    go_wp2_with (fail)
    refine (Try.its_calls v4 _ _ HR2.out H4.out).mono ?_
    rintro e w7 ⟨v5, rfl, ho5, hb7⟩
    have H5 := Lib.hid (hasLines_of_owns ho5)
    clear ho5
    go_wp2_with (fail)
    refine (Try.rRows_calls s _ hs2).mono ?_
    rintro e w8 ⟨v6, rfl, ho6, hb8⟩
    have H6 := Lib.hid (hasLines_of_owns ho6)
    clear ho6
    go_wp2_with (fail)
    refine (Try.Same_calls v5 v6 _ _ HR2.out (hl_of H5.out hb8) H6.out).mono ?_
    rintro e w9 ⟨rfl, hb9⟩
    have B29 := bl hb3 (bl hb4 (bl hb5 (bl hb6 (bl hb7 (bl hb8 hb9)))))
    have B39 := bl hb4 (bl hb5 (bl hb6 (bl hb7 (bl hb8 hb9))))
    have B := bl hb1 (bl hb2 B29)
    have h1 := hl_of H1.out B29
    have h2 := hl_of H2.out B39
    clear H1 H2 H3 H4 H5 H6 B29 B39 hb1 hb2 hb3 hb4 hb5 hb6 hb7 hb8 hb9
    rcases h2.split with ⟨hnil, ao, cap, rfl⟩ | ⟨hpos, g2, cap2, rfl, hg2⟩
    · clear h1 h2 hnil
      go_wp2_with (fail)
      go_loopw [5] (fun i wr => i = .int .i64 0 ∧ Below w.heap.size w wr) (fun _ _ => 0)
      case atStart => exact ⟨rfl, B⟩
      case round =>
        obtain ⟨rfl, hB⟩ := hrel
        go_wp2
        go_ret
        exact ⟨rfl, hB⟩
    · rcases h1.split with ⟨hnil, _⟩ | ⟨_, g1, cap1, rfl, hg1⟩
      · rw [hnil] at hpos; simp at hpos
      · have K1 := Lib.hid h1
        have K2 := Lib.hid h2
        clear h1 h2
        go_wp2_with (fail)
        go_loopw [5] (fun i wr => ∃ k : Nat, k ≤ (lines s.data.toList).length ∧ i = .int .i64 (k : Int) ∧ Below w9.heap.size w9 wr) (fun i _ => (lines s.data.toList).length - (intOf i).toNat)
        case atStart => exact ⟨0, Nat.zero_le _, rfl, Below.refl _ _⟩
        case round =>
          obtain ⟨k, hk, rfl, hB⟩ := hrel
          by_cases hlt : k < (lines s.data.toList).length
          · obtain ⟨⟨a, b, c⟩, hp⟩ : ∃ p, (lines s.data.toList)[k]? = some p := ⟨_, List.getElem?_eq_getElem hlt⟩
            obtain ⟨_, x0, x1, x2⟩ := K1.out.at hp
            obtain ⟨_, y0, y1, y2⟩ := K2.out.at hp
            have kx0 := cell_regrown ((hB.cell (p := ⟨g1, k * 3, none⟩) hg1).trans x0)
            have kx1 := cell_regrown ((hB.cell (p := ⟨g1, k * 3 + 1, none⟩) hg1).trans x1)
            have kx2 := cell_regrown ((hB.cell (p := ⟨g1, k * 3 + 2, none⟩) hg1).trans x2)
            have ky0 := cell_regrown ((hB.cell (p := ⟨g2, k * 3, none⟩) hg2).trans y0)
            have ky1 := cell_regrown ((hB.cell (p := ⟨g2, k * 3 + 1, none⟩) hg2).trans y1)
            have ky2 := cell_regrown ((hB.cell (p := ⟨g2, k * 3 + 2, none⟩) hg2).trans y2)
            clear x0 x1 x2 y0 y1 y2
            obtain ⟨hab, hbl, _, _⟩ := lines_get hp
            have hbl' : b ≤ s.size := by simpa using hbl
            have c16 := fun (d : Nat) (os : Array Obj) => Calls.regrown_of (w := wr) (d := d) (os := os) (Try.Blank_calls s a b c _ hab hbl')
            have c17 := fun (d : Nat) (os : Array Obj) => Calls.regrown_of (w := wr) (d := d) (os := os) (Try.rBlank_calls s a b c _ hs2 hab hbl')
            generalize blankL (cutL s.data.toList a b) = bb at c16 c17
            have C16 := Lib.hid c16
            have C17 := Lib.hid c17
            clear c16 c17 hp hab hbl
            go_wp2
            refine wp_region_quiet_below hmx (by kernel_rfl) ?_
            repeat (quiet_step (first | exact C16.out _ _ | exact C17.out _ _))
            refine wpQuiet_nil ?_
            intro _ hw1
            obtain ⟨⟨dq, osq⟩, hw2⟩ := hw1
            subst hw2
            go_wp2
            go_roundw
            case rel => exact ⟨k + 1, by omega, by go_num, hB.trans ((below_regrown wr dq osq).mono hB.size)⟩
            case measure => simp [intOf]; omega
          · have hkk : k = (lines s.data.toList).length := by omega
            subst hkk
            go_wp2
            go_ret
            exact ⟨rfl, bl B hB⟩
#print axioms Try.CursorLines_calls
end Go.Proofs
