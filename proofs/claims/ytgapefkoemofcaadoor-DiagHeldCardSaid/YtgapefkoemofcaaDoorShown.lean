/- The law package's anchor: two diagnostics in order, and one as text. Condition: the table of powers of ten holds what the card lays. -/
import Derived.Test.YtgapefkoemofcaaDoorTell
import Derived.Test.YtgapefkoemofcaaDoorAll
namespace Go.Proofs
open Go.RowKit Go.Dg
attribute [local go_sem] Oper.semAt_some
attribute [local go_sem ↓] Go.wp_at_zero Go.wp_at_succ
theorem shown_put : putS (putS [] (3, 20)) (1, 30) = [(1, 30), (3, 20)] := by decide
theorem shown_text : tellL [97, 10, 98, 99] (3, 20) = [108, 105, 110, 101, 32, 50, 44, 32, 99, 111, 108, 117, 109, 110, 32, 50, 58, 32, 101, 114, 114, 111, 114, 32, 50, 48] := by
  have h : whereAll [97, 10, 98, 99] 3 = (2, 2, 0) := by decide
  have e2 : Lib.itoa 2 = [50] := by
    rw [show (2 : Int) = ((2 : Nat) : Int) from rfl, Lib.itoa_nonneg, Lib.decDigits_one (by omega)]; rfl
  have e20 : Lib.itoa 20 = [50, 48] := by
    rw [show (20 : Int) = ((20 : Nat) : Int) from rfl, Lib.itoa_nonneg, Lib.decDigits_two (by omega) (by omega)]; rfl
  unfold tellL
  rw [h, e2, e20]
  rfl
theorem Tryd.shown_tell (w : World) (ht : Tab w) : Calls Tryd.prog 20 #[.string ⟨#[97, 10, 98, 99]⟩, .agg #[.int .i64 3, .int .i64 20]] w fun e w' =>
    e = .returned (.string ⟨#[108, 105, 110, 101, 32, 50, 44, 32, 99, 111, 108, 117, 109, 110, 32, 50, 58, 32, 101, 114, 114, 111, 114, 32, 50, 48]⟩) ∧ Below w.heap.size w w' := by
  have := Tryd.Tell_any ⟨#[97, 10, 98, 99]⟩ (3, 20) (by decide) ⟨by decide, by decide⟩ ⟨by decide, by decide⟩ w ht
  rw [show (ByteArray.mk #[97, 10, 98, 99]).data.toList = [97, 10, 98, 99] from rfl, shown_text] at this
  exact this
set_option maxRecDepth 100000 in
set_option maxHeartbeats 4000000 in
theorem Tryd.shown_any (w : World) (ht : Tab w) : Calls Tryd.prog 9 #[] w fun e w' => e = .returned (.bool true) ∧ Below w.heap.size w w' := by
  have HT := Lib.hid ht
  have HP1 : Hid (∀ W, Calls Tryd.prog 14 #[.slice none 0 0, .agg #[.int .i64 3, .int .i64 20]] W fun e w' => ∃ v', e = .returned v' ∧ w'.ownsRow W.heap.size 25 2 v' 1 (cellsOf [(3, 20)]) ∧ Below W.heap.size W w') :=
    fun W => Tryd.Put_any _ [] (3, 20) W trivial (by simp) (.inl ⟨rfl, none, 0, rfl⟩)
  have HP2 : Hid (∀ v W, HasDiags W v [(3, 20)] → Calls Tryd.prog 14 #[v, .agg #[.int .i64 1, .int .i64 30]] W fun e w' => ∃ v', e = .returned v' ∧ w'.ownsRow W.heap.size 25 2 v' 2 (cellsOf [(1, 30), (3, 20)]) ∧ Below W.heap.size W w') :=
    fun v W h => by
      have := Tryd.Put_any v [(3, 20)] (1, 30) W ⟨by simp, trivial⟩ (by simp) h
      rw [show putS [(3, 20)] (1, 30) = [(1, 30), (3, 20)] from shown_put] at this
      exact this
  have HF : Hid (∀ b cap W, DiagAt W b 0 [(1, 30), (3, 20)] → Calls Tryd.prog 16 #[.slice (some ⟨b, 0, none⟩) 2 cap] W fun e w' => e = .returned (.tuple #[.agg #[.int .i64 1, .int .i64 30], .bool true]) ∧ Below W.heap.size W w') := fun b cap W h => Tryd.First_some b 0 cap (1, 30) [(3, 20)] W (by simp) h
  have HTl : Hid (∀ W, Tab W → Calls Tryd.prog 20 #[.string ⟨#[97, 10, 98, 99]⟩, .agg #[.int .i64 3, .int .i64 20]] W fun e w' => e = .returned (.string ⟨#[108, 105, 110, 101, 32, 50, 44, 32, 99, 111, 108, 117, 109, 110, 32, 50, 58, 32, 101, 114, 114, 111, 114, 32, 50, 48]⟩) ∧ Below W.heap.size W w') := fun W h => Tryd.shown_tell W h
  have HS : Hid (∀ b cap W, 2 ≤ cap → cap ≤ maxLen → DiagAt W b 0 [(1, 30), (3, 20)] → Calls Tryd.prog 13 #[.slice (some ⟨b, 0, none⟩) 2 cap] W fun e w' => e = .returned (.bool true) ∧ Below W.heap.size W w') := fun b cap W h1 h2 h => by
    have := Tryd.Sorted_any (.slice (some ⟨b, 0, none⟩) 2 cap) [(1, 30), (3, 20)] W (by simp) (.inr ⟨b, 0, cap, rfl, h1, h2, h⟩)
    rw [show sortB [((1 : Int), (30 : Int)), (3, 20)] = true from by decide] at this
    exact this
  clear ht
  go_enter Tryd.func9, Tryd.ntmps9
  go_wp2_with (go_at_call 14; (with_reducible refine (HP1.out _).mono ?_); rintro e w1 ⟨v1, rfl, ho1, hb1⟩; have h1 := Lib.hid (has_of_owns (l := [(3, 20)]) ho1); clear ho1)
  go_wp2_with (go_at_call 14; (with_reducible refine (HP2.out _ _ h1.out).mono ?_); rintro e w2 ⟨v2, rfl, ho2, hb2⟩; obtain ⟨g, cap, cur, rfl, hbg, hgg, hnc, hcm, hcs, htk⟩ := ownsRow_some ho2 (by omega); have hc63 : cap ≤ 9223372036854775807 := (by unfold maxLen at hcm; omega); have h2 := Lib.hid (has_of_owns (l := [(1, 30), (3, 20)]) ho2); clear ho2 hgg hcs htk)
  have hd : DiagAt w2 g 0 [(1, 30), (3, 20)] := by
    rcases h2.out with ⟨h, _⟩ | ⟨b, off, cap', e, _, _, h⟩
    · cases h
    · simp only [Value.slice.injEq, Option.some.injEq, Addr.mk.injEq, and_true] at e
      obtain ⟨⟨rfl, rfl⟩, _⟩ := e
      exact h
  have B2 : Below w.heap.size w w2 := hb1.trans (hb2.mono hb1.size)
  have HD := Lib.hid hd
  clear hd hb1 hb2 h1 h2
  go_wp2_with (go_at_call 16; (with_reducible refine (HF.out _ _ _ HD.out).mono ?_); rintro e w3 ⟨rfl, hb3⟩; have hd3 := HD.out.next hb3; have D4 := hd3.next ((Below.refl _ w3).alloc (Nat.le_refl _) (.cells #[.int .i64 1, .int .i64 30] 25)); obtain ⟨x0, x1⟩ := D4.read (i := 1) (p := (3, 20)) rfl; have hg3 := hd3.1)
  have t3 := Lib.hid ((HT.out.next B2).next hb3 |>.alloc (.cells #[.int .i64 1, .int .i64 30] 25))
  have H4 := Lib.hid D4
  clear x0 x1 D4
  refine (HTl.out _ t3.out).mono ?_
  rintro e w4 ⟨rfl, hb4⟩
  have D5 := Lib.hid (H4.out.next hb4)
  go_wp2_with (go_at_call 13; (with_reducible refine (HS.out _ _ _ hnc hcm D5.out).mono ?_); rintro e w5 ⟨rfl, hb5⟩)
  go_ret
  have s2 := B2.size
  have s3 := hb3.size
  have s4 := hb4.size
  simp at s4
  exact ⟨rfl, (((B2.trans (hb3.mono s2)).alloc (by omega) _).trans (hb4.mono (by simp; omega))).trans (hb5.mono (by omega))⟩
#print axioms Tryd.shown_any
end Go.Proofs
