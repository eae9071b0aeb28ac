/- diag.Tell and the document's own. Conditions: a text of at most a million bytes; the integers that an int holds; the table of powers of ten holds what the card lays (diag.Tell). -/
import Derived.Test.YtgapefkoemofcaaDoorNum
import Derived.Test.YtgapefkoemofcaaDoorRWhere
namespace Go.Dg
def sErr : List UInt8 := [101, 114, 114, 111, 114, 32]
def sLine : List UInt8 := [108, 105, 110, 101, 32]
def sCol : List UInt8 := [44, 32, 99, 111, 108, 117, 109, 110, 32]
def sSep : List UInt8 := [58, 32]
/-- The text of a line, a column and a number. -/
def told (L C N : List UInt8) : List UInt8 := sLine ++ L ++ sCol ++ C ++ (sSep ++ (sErr ++ N))
def tellL (l : List UInt8) (d : Mk) : List UInt8 := if (Go.Proofs.whereAll l d.1).2.2 = 0 then told (Lib.itoa (Go.Proofs.whereAll l d.1).1) (Lib.itoa (Go.Proofs.whereAll l d.1).2.1) (Lib.itoa d.2) else sErr ++ Lib.itoa d.2
end Go.Dg
namespace Go.Proofs
open Go.RowKit Go.Dg Go.Cur
attribute [local go_sem] Oper.semAt_some
attribute [local go_sem ↓] Go.wp_at_zero Go.wp_at_succ
theorem told_code (X Y N : List UInt8) : (⟨#[108, 105, 110, 101, 32]⟩ : ByteArray) ++ ⟨X.toArray⟩ ++ ⟨#[44, 32, 99, 111, 108, 117, 109, 110, 32]⟩ ++ ⟨Y.toArray⟩ ++ ⟨#[58, 32]⟩ ++ (⟨#[101, 114, 114, 111, 114, 32]⟩ ++ ⟨N.toArray⟩) = ⟨(told X Y N).toArray⟩ := by
  apply ByteArray.ext
  apply Array.ext'
  simp [told, sLine, sCol, sSep, sErr]
theorem told_ref (X Y N : List UInt8) : (⟨#[108, 105, 110, 101, 32]⟩ : ByteArray) ++ ⟨X.toArray⟩ ++ ⟨#[44, 32, 99, 111, 108, 117, 109, 110, 32]⟩ ++ ⟨Y.toArray⟩ ++ ⟨#[58, 32, 101, 114, 114, 111, 114, 32]⟩ ++ ⟨N.toArray⟩ = ⟨(told X Y N).toArray⟩ := by
  apply ByteArray.ext
  apply Array.ext'
  simp [told, sLine, sCol, sSep, sErr]
theorem err_code (N : List UInt8) : (⟨#[101, 114, 114, 111, 114, 32]⟩ : ByteArray) ++ ⟨N.toArray⟩ = ⟨(sErr ++ N).toArray⟩ := by
  apply ByteArray.ext
  apply Array.ext'
  simp [sErr]
def I64 (x : Int) : Prop := -9223372036854775808 ≤ x ∧ x ≤ 9223372036854775807
theorem where_i64 (l : List UInt8) (i : Int) (hl : l.length ≤ 1000000) : ((whereAll l i).2.2 = 0 ∧ 0 ≤ (whereAll l i).1 ∧ (whereAll l i).1 ≤ 2000000 ∧ 0 ≤ (whereAll l i).2.1 ∧ (whereAll l i).2.1 ≤ 2000000) ∨ ((whereAll l i).2.2 = 10 ∧ (whereAll l i).1 = 0 ∧ (whereAll l i).2.1 = 0) := by
  unfold whereAll
  split
  · exact .inr ⟨rfl, rfl, rfl⟩
  · by_cases h : (l.length : Int) < i
    · rw [where_beyond l i h]; exact .inr ⟨rfl, rfl, rfl⟩
    · obtain ⟨n, rfl⟩ := Int.eq_ofNat_of_zero_le (show 0 ≤ i by omega)
      have := col_pos l n (by omega)
      exact .inl ⟨this.2.2.2.2, by omega, by omega, by omega, by omega⟩
theorem itoa_len (n : Int) (h : I64 n) : (Lib.itoa n).length ≤ 21 := Lib.itoa_length_le n h.1 h.2
set_option maxRecDepth 100000 in
set_option maxHeartbeats 2000000 in
theorem Tryd.Tell_any (s : ByteArray) (d : Mk) (hs : s.size ≤ 1000000) (h1 : I64 d.1) (h2 : I64 d.2) (w : World) (ht : Tab w) :
    Calls Tryd.prog 20 #[.string s, .agg #[.int .i64 d.1, .int .i64 d.2]] w fun e w' => e = .returned (.string ⟨(tellL s.data.toList d).toArray⟩) ∧ Below w.heap.size w w' := by
  have hw := where_i64 s.data.toList d.1 (by simpa using hs)
  have HT := Lib.hid ht
  have HW : Hid (∀ W, Calls Tryd.prog 28 #[.string s, .int .i64 d.1] W fun e w' => e = .returned (.tuple #[.int .i64 (whereAll s.data.toList d.1).1, .int .i64 (whereAll s.data.toList d.1).2.1, .int .i64 (whereAll s.data.toList d.1).2.2]) ∧ Below W.heap.size W w') := fun W => Tryd.Where_all s d.1 W hs h1.2
  have hN := itoa_len d.2 h2
  obtain ⟨N, hNe⟩ : ∃ N, N = Lib.itoa d.2 := ⟨_, rfl⟩
  have HN : Hid (∀ W, Tab W → Calls Tryd.prog 27 #[.int .i64 d.2] W fun e w' => e = .returned (.string ⟨N.toArray⟩) ∧ Below W.heap.size W w') := fun W hW => by rw [hNe]; exact Tryd.itoa_any _ h2.1 h2.2 W hW
  rw [← hNe] at hN
  rcases hw with ⟨e0, a1, a2, a3, a4⟩ | ⟨e0, e1, e2⟩
  · have HE : Hid (tellL s.data.toList d = told (Lib.itoa (whereAll s.data.toList d.1).1) (Lib.itoa (whereAll s.data.toList d.1).2.1) N) := by unfold Hid tellL; rw [if_pos e0, hNe]
    rw [e0] at HW
    generalize (whereAll s.data.toList d.1).1 = x at *
    generalize (whereAll s.data.toList d.1).2.1 = y at *
    have hX := itoa_len x ⟨by omega, by omega⟩
    have hY := itoa_len y ⟨by omega, by omega⟩
    obtain ⟨X, hXe⟩ : ∃ X, X = Lib.itoa x := ⟨_, rfl⟩
    obtain ⟨Y, hYe⟩ : ∃ Y, Y = Lib.itoa y := ⟨_, rfl⟩
    have HX : Hid (∀ W, Tab W → Calls Tryd.prog 27 #[.int .i64 x] W fun e w' => e = .returned (.string ⟨X.toArray⟩) ∧ Below W.heap.size W w') := fun W hW => by rw [hXe]; exact Tryd.itoa_any _ (by omega) (by omega) W hW
    have HY : Hid (∀ W, Tab W → Calls Tryd.prog 27 #[.int .i64 y] W fun e w' => e = .returned (.string ⟨Y.toArray⟩) ∧ Below W.heap.size W w') := fun W hW => by rw [hYe]; exact Tryd.itoa_any _ (by omega) (by omega) W hW
    rw [← hXe] at hX HE
    rw [← hYe] at hY HE
    have T0 := Two.new w (.int .i64 d.1) (.int .i64 d.2) 25
    clear ht hNe hXe hYe e0 h1 h2 a1 a2 a3 a4
    go_enter Tryd.func20, Tryd.ntmps20
    go_wp2_with (go_at_call 27; (with_reducible refine (HN.out _ (HT.out.alloc _)).mono ?_); rintro e w1 ⟨rfl, hb1⟩; have T1 := T0.next hb1; have c0 := T1.2.1; have c1 := T1.2.2; have t1 := Lib.hid ((HT.out.alloc _).next hb1))
    go_wp2_with (go_at_call 28; (with_reducible refine (HW.out _).mono ?_); rintro e w2 ⟨rfl, hb2⟩; have t2 := Lib.hid (t1.out.next hb2))
    go_wp2_with (go_at_call 27; (with_reducible refine (HX.out _ t2.out).mono ?_); rintro e w3 ⟨rfl, hb3⟩; have t3 := Lib.hid (t2.out.next hb3))
    go_wp2_with (go_at_call 27; (with_reducible refine (HY.out _ t3.out).mono ?_); rintro e w4 ⟨rfl, hb4⟩)
    go_ret
    refine ⟨?_, ((((Below.refl _ w).alloc (Nat.le_refl _) _).trans (hb1.mono (by simp))).trans (hb2.mono (by have := hb1.size; simp at this; omega))).trans ((hb3.mono (by have := hb1.size; have := hb2.size; simp at *; omega)).trans (hb4.mono (by have := hb1.size; have := hb2.size; have := hb3.size; simp at *; omega)))⟩
    rw [HE.out]
    exact congrArg (fun x => Ending.returned (.string x)) (told_code X Y N)
  · have HE : Hid (tellL s.data.toList d = sErr ++ N) := by unfold Hid tellL; rw [if_neg (by rw [e0]; decide), hNe]
    rw [e0, e1, e2] at HW
    have T0 := Two.new w (.int .i64 d.1) (.int .i64 d.2) 25
    clear ht hNe e0 e1 e2 h1 h2
    go_enter Tryd.func20, Tryd.ntmps20
    go_wp2_with (go_at_call 27; (with_reducible refine (HN.out _ (HT.out.alloc _)).mono ?_); rintro e w1 ⟨rfl, hb1⟩; have T1 := T0.next hb1; have c0 := T1.2.1; have c1 := T1.2.2)
    go_wp2_with (go_at_call 28; (with_reducible refine (HW.out _).mono ?_); rintro e w2 ⟨rfl, hb2⟩)
    go_ret
    refine ⟨?_, (((Below.refl _ w).alloc (Nat.le_refl _) _).trans (hb1.mono (by simp))).trans (hb2.mono (by have := hb1.size; simp at this; omega))⟩
    rw [HE.out]
    exact congrArg (fun x => Ending.returned (.string x)) (err_code N)
/-- What the document's Tell holds. -/
def HeldT (w : World) (d : Mk) (W : World) : Prop := Two W w.heap.size (.int .i64 d.1) (.int .i64 d.2) ∧ Below w.heap.size w W
theorem HeldT.next {w W W' : World} {d : Mk} (h : HeldT w d W) (hb : Below W.heap.size W W') : HeldT w d W' := ⟨h.1.next hb, h.2.trans (hb.mono h.2.size)⟩
theorem HeldT.drew {w W : World} {d : Mk} (h : HeldT w d W) : HeldT w d W.drew := ⟨h.1, h.2.drew⟩
theorem heldT_S {w W : World} {d : Mk} (h : HeldT w d W) : W.cell? ⟨w.heap.size, 0, none⟩ = some (.int .i64 d.1) ∧ W.cell? ⟨w.heap.size, 1, none⟩ = some (.int .i64 d.2) ∧ HeldT w d W := ⟨h.1.2.1, h.1.2.2, h⟩
set_option maxRecDepth 100000 in
set_option maxHeartbeats 4000000 in
theorem Tryd.rTell_any (s : ByteArray) (d : Mk) (hs : s.size ≤ 1000000) (h2 : I64 d.2) (w : World) :
    Calls Tryd.prog 21 #[.string s, .agg #[.int .i64 d.1, .int .i64 d.2]] w fun e w' => e = .returned (.string ⟨(tellL s.data.toList d).toArray⟩) ∧ Below w.heap.size w w' := by
  have hw := where_i64 s.data.toList d.1 (by simpa using hs)
  have HW : Hid (∀ W, Calls Tryd.prog 29 #[.string s, .int .i64 d.1] W fun e w' => e = .returned (.tuple #[.int .i64 (whereAll s.data.toList d.1).1, .int .i64 (whereAll s.data.toList d.1).2.1, .int .i64 (whereAll s.data.toList d.1).2.2]) ∧ W = w') := fun W => Tryd.rWhere_all s d.1 W hs
  have hN := itoa_len d.2 h2
  obtain ⟨N, hNe⟩ : ∃ N, N = Lib.itoa d.2 := ⟨_, rfl⟩
  have HN : Hid (∀ W, Calls Tryd.prog 22 #[.int .i64 d.2] W fun e w' => e = .returned (.string ⟨N.toArray⟩) ∧ Below W.heap.size W w') := fun W => by rw [hNe]; exact Tryd.Num_any _ h2.1 h2.2 W
  rw [← hNe] at hN
  have H0 : HeldT w d (w.alloc (.cells #[.int .i64 d.1, .int .i64 d.2] 25)) := ⟨Two.new w (.int .i64 d.1) (.int .i64 d.2) 25, (Below.refl _ w).alloc (Nat.le_refl _) _⟩
  rcases hw with ⟨e0, a1, a2, a3, a4⟩ | ⟨e0, e1, e2⟩
  · have HE : Hid (tellL s.data.toList d = told (Lib.itoa (whereAll s.data.toList d.1).1) (Lib.itoa (whereAll s.data.toList d.1).2.1) N) := by unfold Hid tellL; rw [if_pos e0, hNe]
    rw [e0] at HW
    generalize (whereAll s.data.toList d.1).1 = x at *
    generalize (whereAll s.data.toList d.1).2.1 = y at *
    have hX := itoa_len x ⟨by omega, by omega⟩
    have hY := itoa_len y ⟨by omega, by omega⟩
    obtain ⟨X, hXe⟩ : ∃ X, X = Lib.itoa x := ⟨_, rfl⟩
    obtain ⟨Y, hYe⟩ : ∃ Y, Y = Lib.itoa y := ⟨_, rfl⟩
    have HX : Hid (∀ W, Calls Tryd.prog 22 #[.int .i64 x] W fun e w' => e = .returned (.string ⟨X.toArray⟩) ∧ Below W.heap.size W w') := fun W => by rw [hXe]; exact Tryd.Num_any _ (by omega) (by omega) W
    have HY : Hid (∀ W, Calls Tryd.prog 22 #[.int .i64 y] W fun e w' => e = .returned (.string ⟨Y.toArray⟩) ∧ Below W.heap.size W w') := fun W => by rw [hYe]; exact Tryd.Num_any _ (by omega) (by omega) W
    rw [← hXe] at hX HE
    rw [← hYe] at hY HE
    clear hNe hXe hYe e0 h2 a1 a2 a3 a4
    go_enter Tryd.func21, Tryd.ntmps21
    go_wp2_with (go_at_call 29; (with_reducible refine (HW.out _).mono ?_); rintro e w' ⟨rfl, rfl⟩)
    have hS := heldT_S H0
    have s1 : ¬ 9223372036854775807 < 5 + X.length := by omega
    have s2 : ¬ 9223372036854775807 < 5 + X.length + 9 := by omega
    have s3 : ¬ 9223372036854775807 < 5 + X.length + 9 + Y.length := by omega
    have s4 : ¬ 9223372036854775807 < 5 + X.length + 9 + Y.length + 8 := by omega
    have s5 : ¬ 9223372036854775807 < 5 + X.length + 9 + Y.length + 8 + N.length := by omega
    go_region_held3 (fun W => W.cell? ⟨w.heap.size, 0, none⟩ = some (.int .i64 d.1) ∧ W.cell? ⟨w.heap.size, 1, none⟩ = some (.int .i64 d.2) ∧ HeldT w d W)
      ((go_split_ands; (first | exact heldT_S (by assumption) | exact heldT_S (HeldT.drew (by assumption)) | exact heldT_S (HeldT.next (by assumption) (by assumption)))))
      (first | (go_at_call 22; (with_reducible refine (HX.out _).mono ?_); rintro e w' ⟨rfl, hb⟩) | (go_at_call 22; (with_reducible refine (HY.out _).mono ?_); rintro e w' ⟨rfl, hb⟩) | (go_at_call 22; (with_reducible refine (HN.out _).mono ?_); rintro e w' ⟨rfl, hb⟩))
    have T := (show _ ∧ _ ∧ HeldT w d w' by assumption).2.2
    clear hS
    go_wp2
    go_ret
    refine ⟨?_, T.2⟩
    rw [HE.out]
    exact congrArg (fun x => Ending.returned (.string x)) (told_ref X Y N)
  · have HE : Hid (tellL s.data.toList d = sErr ++ N) := by unfold Hid tellL; rw [if_neg (by rw [e0]; decide), hNe]
    rw [e0, e1, e2] at HW
    have T0 := H0.1
    have c0 := T0.2.1
    have c1 := T0.2.2
    clear hNe e0 e1 e2 h2
    go_enter Tryd.func21, Tryd.ntmps21
    go_wp2_with (first | (go_at_call 29; (with_reducible refine (HW.out _).mono ?_); rintro e w' ⟨rfl, rfl⟩) | (go_at_call 22; (with_reducible refine (HN.out _).mono ?_); rintro e w2 ⟨rfl, hb⟩))
    go_ret
    refine ⟨?_, ((Below.refl _ w).alloc (Nat.le_refl _) _).trans (hb.mono (by simp))⟩
    rw [HE.out]
    exact congrArg (fun x => Ending.returned (.string x)) (err_code N)
#print axioms Tryd.Tell_any
#print axioms Tryd.rTell_any
end Go.Proofs
