/- shown of layer 7: a matrix of three by its upper rows. Conditions: the array of keywords holds what the card lays. -/
import Derived.Test.YtipajbcamdcnkaaDoorLayoutPackP
import Derived.Test.YtipajbcamdcnkaaDoorLayoutIndexP
import Derived.Test.YtipajbcamdcnkaaDoorLayoutKeysP
namespace Go.Proofs
open Go.RowKit Go.Shelf Go.Layout Go.TextTab
attribute [local go_sem] Oper.semAt_some

theorem u3 : unpackE 2 3 [4, 5, 6] = ([0, 4, 5, 4, 0, 6, 5, 6, 0], 0) := by decide
theorem p3 : packE 5 3 [0, 4, 5, 4, 0, 6, 5, 6, 0] = ([0, 4, 0, 5, 6, 0], 0) := by decide
theorem i3 : indexE 2 3 1 2 = 2 := by decide
theorem HasInts.pos {W : World} {v : Value} {l : List Int} (h : HasInts W v l) (hl : 0 < l.length) : ∃ b off cap, v = .slice (some ⟨b, off, none⟩) l.length cap ∧ IntAt W b off l := by
  rcases h with ⟨rfl, _⟩ | ⟨b, off, cap, rfl, _, _, hd⟩
  · simp at hl
  · exact ⟨b, off, cap, rfl, hd⟩
theorem ints_lit (W : World) (l : List Int) (hl : l.length ≤ maxLen) : HasInts (W.alloc (.cells (l.map intV).toArray 3)) (.slice (some ⟨W.heap.size, 0, none⟩) l.length l.length) l := by
  refine .inr ⟨W.heap.size, 0, l.length, rfl, Nat.le_refl _, hl, by simp, fun i x hi => ?_⟩
  have e := World.alloc_heap_new W (.cells (l.map intV).toArray 3)
  unfold World.cell?
  simp only [e]
  simp [hi, intV]

set_option maxRecDepth 100000 in
set_option maxHeartbeats 1000000 in
theorem Tryd.shown_calls (w : World) (hT : LayTab w) :
    Calls Tryd.prog 9 #[] w fun e w' => e = .returned (.bool true) ∧ Below w.heap.size w w' := by
  have HT := Lib.hid hT
  clear hT
  have U := fun (v : Value) (W : World) (h : HasInts W v [4, 5, 6]) => Tryd.Unpack_calls 2 3 v [4, 5, 6] W h
  rw [u3] at U
  have P := fun (v : Value) (W : World) (h : HasInts W v [0, 4, 5, 4, 0, 6, 5, 6, 0]) => Tryd.Pack_calls 5 3 v [0, 4, 5, 4, 0, 6, 5, 6, 0] W h
  rw [p3] at P
  have X := fun (W : World) => Tryd.Index_any 2 3 1 2 W
  rw [i3] at X
  have K := fun (W : World) (h : LayTab W) => Tryd.Keyword_calls 1 W h
  rw [show lkwS 1 = ⟨#[70, 85, 76, 76, 95, 77, 65, 84, 82, 73, 88]⟩ from rfl] at K
  have L0 := ints_lit w [4, 5, 6] (by decide)
  have HL0 := Lib.hid L0
  have HU := Lib.hid U
  have HP := Lib.hid P
  have HX := Lib.hid X
  have HK := Lib.hid K
  clear L0 U P X K
  go_enter Tryd.func9, Tryd.ntmps9
  go_wp2_with (fail)
  refine (HU.out _ _ HL0.out).mono ?_
  rintro e w1 ⟨v1, rfl, h1, hb1⟩
  have hB1 : Below w.heap.size w w1 := ((Below.refl _ w).alloc (Nat.le_refl _) _).trans (hb1.mono (by simp))
  clear hb1 HL0
  have H1 := Lib.hid h1
  obtain ⟨b, off, cap, rfl, hd⟩ := h1.pos (by simp)
  have HD := Lib.hid hd
  clear h1 hd
  go_wp2_with (fail)
  refine (HP.out _ _ H1.out).mono ?_
  rintro e w2 ⟨v2, rfl, h2, hb2⟩
  obtain ⟨b2, off2, cap2, rfl, hd2⟩ := h2.pos (by simp)
  have D1 := HD.out.next hb2
  have x1 := D1.2 1 4 rfl
  have x6 := D1.2 6 5 rfl
  have x5 := D1.2 5 6 rfl
  have x4 := D1.2 4 0 rfl
  have y1 := hd2.2 1 4 rfl
  clear h2 hd2 D1
  go_wp2_with (fail)
  refine (HX.out _).mono ?_
  rintro e w3 ⟨rfl, hb3⟩
  have hB3 := hB1.trans ((hb2.trans (hb3.mono hb2.size)).mono hB1.size)
  go_wp2_with (fail)
  refine (HK.out _ (HT.out.below hB3)).mono ?_
  rintro e w4 ⟨rfl, hw4⟩
  obtain rfl : w3 = w4 := hw4.symm
  go_wp2
  go_ret
  exact ⟨rfl, hB3⟩
#print axioms Tryd.shown_calls
end Go.Proofs
