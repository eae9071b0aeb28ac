/- slices.BinarySearchFunc as this program calls it: over a sorted list of marks. Conditions: sorted; at most two million. -/
import Derived.Test.YtgapefkoemofcaaDoorCmp
namespace Go.Proofs
open Go.RowKit Go.Dg
attribute [local go_sem] Oper.semAt_some
attribute [local go_sem ↓] Go.wp_at_zero Go.wp_at_succ

/-- The cells of a list's elements, from an address on. -/
def DiagAt (W : World) (b off : Nat) (l : List Mk) : Prop := b < W.heap.size ∧ ∀ i a c, l[i]? = some (a, c) → W.cell? ⟨b, off + i * 2, none⟩ = some (.int .i64 a) ∧ W.cell? ⟨b, off + i * 2 + 1, none⟩ = some (.int .i64 c)
/-- A slice that reads as l. -/
def HasDiags (W : World) (v : Value) (l : List Mk) : Prop := (l = [] ∧ ∃ ao cap, v = .slice ao 0 cap) ∨ ∃ b off cap, v = .slice (some ⟨b, off, none⟩) l.length cap ∧ l.length ≤ cap ∧ cap ≤ maxLen ∧ DiagAt W b off l
theorem DiagAt.below {B b off : Nat} {W W' : World} {l : List Mk} (h : DiagAt W b off l) (hb : Below B W W') (hlt : b < B) : DiagAt W' b off l :=
  ⟨Nat.lt_of_lt_of_le h.1 hb.size, fun i a c hi => ⟨(hb.cell (p := ⟨b, off + i * 2, none⟩) hlt).trans (h.2 i a c hi).1, (hb.cell (p := ⟨b, off + i * 2 + 1, none⟩) hlt).trans (h.2 i a c hi).2⟩⟩
theorem DiagAt.next {b off : Nat} {W W' : World} {l : List Mk} (h : DiagAt W b off l) (hb : Below W.heap.size W W') : DiagAt W' b off l := h.below hb h.1
theorem HasDiags.next {W W' : World} {v : Value} {l : List Mk} (h : HasDiags W v l) (hb : Below W.heap.size W W') : HasDiags W' v l := by
  rcases h with h | ⟨b, off, cap, h1, h2, h3, h4⟩
  · exact .inl h
  · exact .inr ⟨b, off, cap, h1, h2, h3, h4.next hb⟩
theorem DiagAt.read {W : World} {b off : Nat} {l : List Mk} (h : DiagAt W b off l) {i : Nat} {p : Mk} (hi : l[i]? = some p) : W.cell? ⟨b, off + i * 2, none⟩ = some (.int .i64 p.1) ∧ W.cell? ⟨b, off + i * 2 + 1, none⟩ = some (.int .i64 p.2) := h.2 i p.1 p.2 hi

/-- What the search holds while it goes: the target in its box, and the list. -/
def HeldS (w : World) (d : Mk) (b off : Nat) (l : List Mk) (W : World) : Prop := Two W w.heap.size (.int .i64 d.1) (.int .i64 d.2) ∧ DiagAt W b off l ∧ b < w.heap.size ∧ Below w.heap.size w W
theorem HeldS.new {w : World} {b off : Nat} {l : List Mk} (h : DiagAt w b off l) (d : Mk) (t : TypeId) : HeldS w d b off l (w.alloc (.cells #[.int .i64 d.1, .int .i64 d.2] t)) :=
  ⟨Two.new _ _ _ _, h.next ((Below.refl _ _).alloc (Nat.le_refl _) _), h.1, (Below.refl _ w).alloc (Nat.le_refl _) _⟩
theorem HeldS.next {w W W' : World} {d : Mk} {b off : Nat} {l : List Mk} (h : HeldS w d b off l W) (hb : Below W.heap.size W W') : HeldS w d b off l W' := ⟨h.1.next hb, h.2.1.next hb, h.2.2.1, h.2.2.2.trans (hb.mono h.2.2.2.size)⟩
theorem HeldS.drew {w W : World} {d : Mk} {b off : Nat} {l : List Mk} (h : HeldS w d b off l W) : HeldS w d b off l W.drew := ⟨h.1, h.2.1, h.2.2.1, h.2.2.2.drew⟩
theorem heldS_S {w W : World} {d p : Mk} {b off i : Nat} {l : List Mk} (hi : Hid (l[i]? = some p)) (h : HeldS w d b off l W) : W.cell? ⟨w.heap.size, 0, none⟩ = some (.int .i64 d.1) ∧ W.cell? ⟨w.heap.size, 1, none⟩ = some (.int .i64 d.2) ∧ W.cell? ⟨b, off + i * 2, none⟩ = some (.int .i64 p.1) ∧ W.cell? ⟨b, off + i * 2 + 1, none⟩ = some (.int .i64 p.2) ∧ HeldS w d b off l W := ⟨h.1.2.1, h.1.2.2, (h.2.1.read hi.out).1, (h.2.1.read hi.out).2, h⟩

theorem below_drewN {B : Nat} {a w : World} (h : Below B a w) (n : Nat) : Below B a (w.drewN n) := ⟨h.os, h.tape, h.output, h.size, h.block⟩
set_option maxRecDepth 100000 in
set_option maxHeartbeats 4000000 in
theorem Tryd.search_some (b off cap : Nat) (l : List Mk) (d : Mk) (hs : Srt l) (hl : l.length ≤ 2000000) (w : World) (hd : DiagAt w b off l) :
    Calls Tryd.prog 31 #[.slice (some ⟨b, off, none⟩) l.length cap, .agg #[.int .i64 d.1, .int .i64 d.2], .func (.func 25) #[] #[]] w fun e w' =>
      e = .returned (.tuple #[.int .i64 (below l d : Nat), .bool (decide (l[below l d]? = some d))]) ∧ Below w.heap.size w w' := by
  have HC : Hid (∀ p W, Calls Tryd.prog 25 #[.agg #[.int .i64 p.1, .int .i64 p.2], .agg #[.int .i64 d.1, .int .i64 d.2]] W fun e w' => e = .returned (.int .i64 (cmpM p d)) ∧ Below W.heap.size W w') := fun p W => Tryd.compare_any p d W
  have hN := below_le l d
  obtain ⟨B, hB⟩ : ∃ B, B = below l d := ⟨_, rfl⟩
  obtain ⟨F, hF⟩ : ∃ F, F = decide (l[B]? = some d) := ⟨_, rfl⟩
  rw [← hB] at hN ⊢
  rw [← hF]
  have HF := Lib.hid hF
  have HB := Lib.hid hB
  clear hF hB
  have HS := Lib.hid hs
  have H0 := HeldS.new hd d 47
  clear hs hd
  go_enter Tryd.func31, Tryd.ntmps31
  go_wp2
  go_loopw [9, 10, 11] (fun i j _h wr => ∃ p q : Nat, p ≤ B ∧ B ≤ q ∧ q ≤ l.length ∧ i = .int .i64 (p : Int) ∧ j = .int .i64 (q : Int) ∧ HeldS w d b off l wr) (fun i j _ _ => (intOf j).toNat - (intOf i).toNat)
  case atStart => exact ⟨0, l.length, Nat.zero_le _, hN, Nat.le_refl _, rfl, rfl, H0⟩
  case round =>
    obtain ⟨p, q, hp, hq, hql, rfl, rfl, hH⟩ := hrel
    clear H0
    by_cases hlt : p < q
    · obtain ⟨h, hh⟩ : ∃ h, h = (p + q) / 2 := ⟨_, rfl⟩
      have he : ((p : Int) + (q : Int)) / 2 = (h : Int) := by omega
      have h1 : p ≤ h := by omega
      have h2 : h < q := by omega
      clear hh
      obtain ⟨m, hm⟩ : ∃ m, l[h]? = some m := ⟨_, List.getElem?_eq_getElem (by omega)⟩
      have HM := Lib.hid hm
      have hb := below_of (d := d) HS.out hm
      rw [← HB.out] at hb
      have hS := heldS_S HM hH
      have HCm := Lib.hid (HC.out m)
      clear hm hH
      have hlc : h < l.length := by omega
      obtain ⟨z, hz⟩ : ∃ z, z = cmpM m d := ⟨_, rfl⟩
      rw [← hz] at HCm
      cases hx : lt m d with
      | true =>
        have hb1 := hb.1 hx
        have hneg : z < 0 := by rw [hz]; exact cmpM_lt.2 hx
        clear hb hx hz HS HC
        go_wp2
        go_region_held3 (fun W => W.cell? ⟨w.heap.size, 0, none⟩ = some (.int .i64 d.1) ∧ W.cell? ⟨w.heap.size, 1, none⟩ = some (.int .i64 d.2) ∧ W.cell? ⟨b, off + h * 2, none⟩ = some (.int .i64 m.1) ∧ W.cell? ⟨b, off + h * 2 + 1, none⟩ = some (.int .i64 m.2) ∧ HeldS w d b off l W)
          ((go_split_ands; (first | exact heldS_S HM (by assumption) | exact heldS_S HM (HeldS.drew (by assumption)) | exact heldS_S HM (HeldS.next (by assumption) (by assumption)))))
          (first | (go_at_call 25; (with_reducible refine (HCm.out _).mono ?_); rintro e w' ⟨rfl, hb⟩))
        have T := (show _ ∧ _ ∧ _ ∧ _ ∧ HeldS w d b off l w' by assumption).2.2.2.2
        clear hS
        go_wp2
        go_roundw
        case rel => exact ⟨h + 1, q, by omega, hq, hql, by go_num, rfl, T⟩
        case measure => simp [intOf]; omega
      | false =>
        have hb1 := hb.2 hx
        have hneg : ¬ z < 0 := by rw [hz, cmpM_lt, hx]; simp
        clear hb hx hz HS HC
        go_wp2
        go_region_held3 (fun W => W.cell? ⟨w.heap.size, 0, none⟩ = some (.int .i64 d.1) ∧ W.cell? ⟨w.heap.size, 1, none⟩ = some (.int .i64 d.2) ∧ W.cell? ⟨b, off + h * 2, none⟩ = some (.int .i64 m.1) ∧ W.cell? ⟨b, off + h * 2 + 1, none⟩ = some (.int .i64 m.2) ∧ HeldS w d b off l W)
          ((go_split_ands; (first | exact heldS_S HM (by assumption) | exact heldS_S HM (HeldS.drew (by assumption)) | exact heldS_S HM (HeldS.next (by assumption) (by assumption)))))
          (first | (go_at_call 25; (with_reducible refine (HCm.out _).mono ?_); rintro e w' ⟨rfl, hb⟩))
        have T := (show _ ∧ _ ∧ _ ∧ _ ∧ HeldS w d b off l w' by assumption).2.2.2.2
        clear hS
        go_wp2
        go_roundw
        case rel => exact ⟨p, h, hp, by omega, by omega, rfl, rfl, T⟩
        case measure => simp [intOf]; omega
    · obtain rfl : p = q := by omega
      obtain rfl : B = p := by omega
      clear hp hq
      by_cases hn : B < l.length
      · obtain ⟨m, hm⟩ : ∃ m, l[B]? = some m := ⟨_, List.getElem?_eq_getElem hn⟩
        have HM := Lib.hid hm
        have hS := heldS_S HM hH
        have HCm := Lib.hid (HC.out m)
        obtain ⟨z, hz⟩ : ∃ z, z = cmpM m d := ⟨_, rfl⟩
        rw [← hz] at HCm
        by_cases hx : m = d
        · have hzz : z = 0 := by rw [hz]; exact cmpM_eq.2 hx
          have HX := Lib.hid hx
          subst hzz
          clear hx hz HS HC hm hH
          go_wp2
          go_region_held3 (fun W => W.cell? ⟨w.heap.size, 0, none⟩ = some (.int .i64 d.1) ∧ W.cell? ⟨w.heap.size, 1, none⟩ = some (.int .i64 d.2) ∧ W.cell? ⟨b, off + B * 2, none⟩ = some (.int .i64 m.1) ∧ W.cell? ⟨b, off + B * 2 + 1, none⟩ = some (.int .i64 m.2) ∧ HeldS w d b off l W)
            ((go_split_ands; (first | exact heldS_S HM (by assumption) | exact heldS_S HM (HeldS.drew (by assumption)) | exact heldS_S HM (HeldS.next (by assumption) (by assumption)))))
            (first | (go_at_call 25; (with_reducible refine (HCm.out _).mono ?_); rintro e w' ⟨rfl, hb⟩))
          have T := (show _ ∧ _ ∧ _ ∧ _ ∧ HeldS w d b off l w' by assumption).2.2.2.2
          clear hS
          go_wp2
          go_ret2
          exact ⟨by rw [HF.out, HM.out]; simp [HX.out], T.2.2.2⟩
        · have hzz : (z == 0) = false := beq_eq_false_iff_ne.2 (by rw [hz]; exact fun e => hx (cmpM_eq.1 e))
          have HX := Lib.hid hx
          clear hx hz HS HC hm hH
          go_wp2
          go_region_held3 (fun W => W.cell? ⟨w.heap.size, 0, none⟩ = some (.int .i64 d.1) ∧ W.cell? ⟨w.heap.size, 1, none⟩ = some (.int .i64 d.2) ∧ W.cell? ⟨b, off + B * 2, none⟩ = some (.int .i64 m.1) ∧ W.cell? ⟨b, off + B * 2 + 1, none⟩ = some (.int .i64 m.2) ∧ HeldS w d b off l W)
            ((go_split_ands; (first | exact heldS_S HM (by assumption) | exact heldS_S HM (HeldS.drew (by assumption)) | exact heldS_S HM (HeldS.next (by assumption) (by assumption)))))
            (first | (go_at_call 25; (with_reducible refine (HCm.out _).mono ?_); rintro e w' ⟨rfl, hb⟩))
          have T := (show _ ∧ _ ∧ _ ∧ _ ∧ HeldS w d b off l w' by assumption).2.2.2.2
          clear hS
          go_wp2
          go_ret2
          exact ⟨by rw [HF.out, HM.out]; simp [HX.out], T.2.2.2⟩
      · have hnl : B = l.length := by omega
        have hnone : l[B]? = none := List.getElem?_eq_none (by omega)
        have hf : decide ((B : Int) < (l.length : Int)) = false := decide_eq_false (by omega)
        have HN := Lib.hid hnone
        have HW := hH.2.2.2
        clear hnl hnone HS HC hH
        go_wp2
        go_quiet (fail)
        go_wp2
        go_ret2
        exact ⟨by rw [HF.out, HN.out]; simp, below_drewN HW _⟩
set_option maxHeartbeats 400000 in
theorem Tryd.search_none (ao : Option Addr) (cap : Nat) (d : Mk) (w : World) :
    Calls Tryd.prog 31 #[.slice ao 0 cap, .agg #[.int .i64 d.1, .int .i64 d.2], .func (.func 25) #[] #[]] w fun e w' =>
      e = .returned (.tuple #[.int .i64 0, .bool false]) ∧ Below w.heap.size w w' := by
  go_enter Tryd.func31, Tryd.ntmps31
  go_wp2
  go_loopw [9, 10, 11] (fun i j _h wr => i = .int .i64 0 ∧ j = .int .i64 0 ∧ wr = w.alloc (.cells #[.int .i64 d.1, .int .i64 d.2] 47)) (fun _ _ _ _ => 0)
  case atStart => exact ⟨rfl, rfl, rfl⟩
  case round =>
    obtain ⟨rfl, rfl, rfl⟩ := hrel
    go_wp2
    go_quiet (fail)
    go_wp2
    go_ret2
    exact ⟨rfl, below_drewN ((Below.refl _ w).alloc (Nat.le_refl _) _) _⟩
#print axioms Tryd.search_some
#print axioms Tryd.search_none
end Go.Proofs
