/- words.Fields of this program, as a contract. Conditions: a text of at most two million bytes. -/
import Derived.Test.YtlgdhopiifoikaaRows2
import Derived.Test.YtlgdhopiifoikaaTexts
import Derived.Test.YtlgdhopiifoikaaFieldsPlain
namespace Go.Wds
def sBlanks : ByteArray := ⟨#[32, 9]⟩
theorem low_blanks : Low sBlanks := by unfold Low; decide
theorem flat_has {s : ByteArray} (h : Low s) : Flat (has s) := fun r hr => by rw [has_high h hr, has_high h (Nat.le_refl _)]
theorem flat_not {p : Nat → Bool} (h : Flat p) : Flat (fun x => !p x) := fun r hr => by show (!p r) = !p 128; rw [h r hr]
theorem of_blanks : ofB (has sBlanks) = blk := by
  funext c
  have h : ∀ n : Nat, has sBlanks n = (n == 32 || n == 9) := fun n => by
    show ((32 == n) || ((9 == n) || false)) = _
    rw [Bool.or_false, Bool.eq_iff_iff]
    simp only [Bool.or_eq_true, beq_iff_eq]
    omega
  unfold ofB blk
  rw [h, Bool.eq_iff_iff]
  simp only [Bool.or_eq_true, beq_iff_eq, ← UInt8.toNat_inj]
  rfl
theorem of_ink : ofB (fun x => !has sBlanks x) = ink := by
  funext c
  show (!ofB (has sBlanks) c) = !blk c
  rw [of_blanks]
/-- The words of a part of a text; none, if it is none. -/
def fieldsI (s : ByteArray) (a b : Int) : List (Nat × Nat) := if Go.Proofs.inB s.size a b = true then wordsL s.data.toList a.toNat b.toNat else []
theorem fieldsI_len (s : ByteArray) (a b : Int) : (fieldsI s a b).length ≤ s.size := by
  unfold fieldsI
  split
  · rename_i h
    have h' := of_decide_eq_true h
    have := words_len s.data.toList a.toNat b.toNat
    omega
  · simp
end Go.Wds
namespace Go.Proofs
open Go.RowKit Go.Shelf Go.Wds

theorem Try.blanks_calls (w : World) : Calls Try.prog 26 #[.string { data := #[32, 9] }] w fun e w' => ∃ v, e = .returned v ∧ IsClass v (has sBlanks) w' ∧ Below w.heap.size w w' := Try.oneOf_calls sBlanks w low_blanks
theorem Try.seekBlank {v : Value} (s : ByteArray) (a b : Nat) (w : World) (hab : a ≤ b) (hbs : b ≤ s.size) (hs : s.size ≤ 2000000) (hv : IsClass v (has sBlanks) w) :
    Calls Try.prog 28 #[.string s, .int .i64 (a : Int), .int .i64 (b : Int), v] w fun e w' => e = .returned (.int .i64 (seekL blk s.data.toList a b : Nat)) ∧ Below w.heap.size w w' := by
  have := Try.seek_calls s a b w hab hbs hs (flat_has low_blanks) hv
  rwa [of_blanks] at this
theorem Try.seekInk {v : Value} (s : ByteArray) (a b : Nat) (w : World) (hab : a ≤ b) (hbs : b ≤ s.size) (hs : s.size ≤ 2000000) (hv : IsClass v (fun x => !has sBlanks x) w) :
    Calls Try.prog 28 #[.string s, .int .i64 (a : Int), .int .i64 (b : Int), v] w fun e w' => e = .returned (.int .i64 (seekL ink s.data.toList a b : Nat)) ∧ Below w.heap.size w w' := by
  have := Try.seek_calls s a b w hab hbs hs (flat_not (flat_has low_blanks)) hv
  rwa [of_ink] at this

set_option maxRecDepth 100000 in
set_option maxHeartbeats 2000000 in
theorem Try.Fields_calls (s : ByteArray) (a b : Int) (w : World) (hs : s.size ≤ 2000000) :
    Calls Try.prog 13 #[.string s, .int .i64 a, .int .i64 b] w fun e w' => ∃ v, e = .returned v ∧ HasWords w' v (fieldsI s a b) ∧ Below w.heap.size w w' := by
  cases h : inB s.size a b with
  | false =>
    have hc := Lib.hid fun w => Try.inside_calls s a b w
    rw [h] at hc
    have H := Lib.hid (show fieldsI s a b = [] by unfold fieldsI; rw [h]; rfl)
    clear h
    go_enter Try.func13, Try.ntmps13
    go_wp2_with (go_at_call 25; (with_reducible refine (hc.out _).mono ?_); rintro e w1 ⟨rfl, rfl⟩)
    go_ret
    rw [H.out]
    exact ⟨_, rfl, HasWords.nil _, Below.refl _ _⟩
  | true =>
    obtain ⟨x, y, rfl, rfl, hxy, hy⟩ := inB_out h
    have hc := Lib.hid fun w => Try.inside_calls s (x : Int) (y : Int) w
    have H := Lib.hid (show fieldsI s (x : Int) (y : Int) = wordsL s.data.toList x y by unfold fieldsI; rw [if_pos h]; rfl)
    rw [h] at hc
    clear h
    obtain ⟨i0, hi, hz0, hz1, hz2⟩ := info_parts Try.info31
    have HI := Lib.hid hi
    have HL := Lib.hid (show s.data.toList.length = s.size by simp)
    clear hi
    obtain ⟨st1, st2, st3, st4⟩ := fields_start (l := s.data.toList) hxy
    have ST3 := Lib.hid st3
    have ST4 := Lib.hid st4
    clear st3 st4
    go_enter Try.func13, Try.ntmps13
    go_wp2_with (go_at_call 25; (with_reducible refine (hc.out _).mono ?_); rintro e w1 ⟨rfl, rfl⟩)
    refine (Try.blanks_calls _).mono ?_
    rintro e w2 ⟨vb, rfl, hvb, hb2⟩
    have HB := Lib.hid hvb
    clear hvb
    go_wp2_with (go_at_call 27; (with_reducible refine (Try.not_calls HB.out).mono ?_); rintro e w3 ⟨vi, rfl, hvi, hb3⟩)
    have HI2 := Lib.hid hvi
    clear hvi
    have B3 : Below w1.heap.size w1 w3 := hb2.trans (hb3.mono hb2.size)
    have HB3 := Lib.hid (HB.out.later hb3)
    clear HB hb2 hb3
    go_wp2_with (go_at_call 28; (with_reducible refine (Try.seekInk s x y w3 hxy hy hs HI2.out).mono ?_); rintro e w4 ⟨rfl, hb4⟩)
    have B4 : Below w1.heap.size w1 w4 := B3.trans (hb4.mono B3.size)
    have HB4 := Lib.hid (HB3.out.later hb4)
    have HI4 := Lib.hid (HI2.out.later hb4)
    clear HB3 HI2 B3 hb4
    go_loopw [9, 10] (fun v k wr => ∃ n : Nat, k = .int .i64 (n : Int) ∧ x ≤ n ∧ n ≤ y ∧ Ready s.data.toList x y n ∧ wr.ownsRow w4.heap.size 31 2 v (wordsL s.data.toList x n).length (wordCells (wordsL s.data.toList x n)) ∧ Below w4.heap.size w4 wr) (fun _ k _ => y - (intOf k).toNat)
    case atStart => exact ⟨_, rfl, st1, st2, ST4.out, by rw [ST3.out]; exact World.ownsRow_nil _ _ _ _, Below.refl _ _⟩
    case round =>
      obtain ⟨n, rfl, hxn, hny, hr, hown, hB⟩ := hrel
      by_cases hlt : n < y
      · obtain ⟨e1, e2, e3, e4, e5, e6⟩ := fields_step hxn hlt (by rw [HL.out]; exact hy) hr
        have hwl := words_len s.data.toList x n
        obtain ⟨m, hm⟩ : ∃ m, seekL blk s.data.toList n y = m := ⟨_, rfl⟩
        rw [hm] at e1 e2 e3 e4 e5 e6
        obtain ⟨o, ho⟩ : ∃ o, seekL ink s.data.toList m y = o := ⟨_, rfl⟩
        rw [ho] at e3 e4 e5 e6
        have C1 := Lib.hid (Try.seekBlank s n y wr (by omega) hy hs (HB4.out.later hB))
        have C2 := Lib.hid fun W (h : Below w4.heap.size w4 W) => Try.seekInk s m y W e2 hy hs (HI4.out.later h)
        rw [hm] at C1
        rw [ho] at C2
        have E5 := Lib.hid e5
        have E6 := Lib.hid e6
        have hB1 : w4.heap.size ≤ wr.heap.size := hB.size
        have hml : (wordsL s.data.toList x n).length + 1 ≤ maxLen := by unfold maxLen; omega
        have hml2 : ((wordsL s.data.toList x n).length + 1) * 16 ≤ 140737488355328 := by omega
        clear hm ho e5 e6 hr hwl
        go_wp2_with (fail)
        refine C1.out.mono ?_
        rintro e W1 ⟨rfl, hb1⟩
        have hown1 := ownsRow_below hown hb1 (Nat.le_refl _)
        have hB2 : Below w4.heap.size w4 W1 := hB.trans (hb1.mono hB1)
        have hB3 : w4.heap.size ≤ W1.heap.size := hB2.size
        clear hown hB hb1 C1
        go_wp2_with (at_builtin; refine wpList_append_own _ rfl _ _ 26 rfl w4.heap.size 31 i0 (.agg #[.int .i64 0, .int .i64 0]) 2 16 Try.underlying26 HI.out hz0 hz1 hz2 rfl (by decide) _ _ _ rfl (hown1.alloc _) ⟨W1.heap.size, 0, none⟩ 1 1 [.int .i64 (n : Nat), .int .i64 (m : Nat)] rfl rfl (cells_new W1 #[.int .i64 (n : Nat), .int .i64 (m : Nat)] 31) (by simp [Value.oneCell']) hml hml2 (by simp; omega) ?_; intro v' W2 hown' hgrow _)
        have hB4 := grown_below hB2 hB3 hown1 hgrow
        refine (C2.out _ hB4).mono ?_
        rintro e W3 ⟨rfl, hb3⟩
        have hown2 := ownsRow_below hown' hb3 (Nat.le_refl _)
        have hB5 : Below w4.heap.size w4 W3 := hB4.trans (hb3.mono hB4.size)
        clear hown' hgrow hown1 hB2 hb3 C2
        go_wp2
        go_roundw
        case rel => exact ⟨o, rfl, by omega, by omega, E6.out, by rw [E5.out, wordCells_snoc, List.length_append]; exact hown2, hB5⟩
        case measure => simp [intOf]; omega
      · have hny2 : n = y := by omega
        subst hny2
        have HO := Lib.hid (hasWords_of_owns hown)
        clear hown hr
        go_wp2
        go_ret
        rw [H.out]
        exact ⟨_, rfl, HO.out, B4.trans (hB.mono B4.size)⟩
#print axioms Try.Fields_calls
end Go.Proofs
