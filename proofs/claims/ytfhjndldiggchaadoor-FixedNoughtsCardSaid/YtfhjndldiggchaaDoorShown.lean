/- The statements' own example answers true. Conditions: the table of powers of ten holds what the card lays. -/
import Derived.Test.YtfhjndldiggchaaDoorPrint
namespace Go.Proofs
open Go.RowKit Go.Fx
attribute [local go_sem] Oper.semAt_some

/-- Block b holds the two cells u and v. -/
def Pair (W : World) (b : Nat) (t : TypeId) (u v : Value) : Prop := W.heap[b]? = some (.cells #[u, v] t (0, 0))
theorem Pair.lt {W : World} {b : Nat} {t : TypeId} {u v : Value} (h : Pair W b t u v) : b < W.heap.size := (Array.getElem?_eq_some_iff.1 h).1
theorem Pair.c0 {W : World} {b : Nat} {t : TypeId} {u v : Value} (h : Pair W b t u v) : W.cell? ⟨b, 0, none⟩ = some u := by simp [World.cell?, show W.heap[b]? = _ from h]
theorem Pair.c1 {W : World} {b : Nat} {t : TypeId} {u v : Value} (h : Pair W b t u v) : W.cell? ⟨b, 1, none⟩ = some v := by simp [World.cell?, show W.heap[b]? = _ from h]
theorem Pair.new (W : World) (t : TypeId) (u v : Value) : Pair (W.alloc (.cells #[u, v] t)) W.heap.size t u v := World.alloc_heap_new W _
theorem Pair.below {B b : Nat} {W W' : World} {t : TypeId} {u v : Value} (h : Pair W b t u v) (hb : Below B W W') (hlt : b < B) : Pair W' b t u v := (hb.block b hlt).trans h
theorem Pair.next {b : Nat} {W W' : World} {t : TypeId} {u v : Value} (h : Pair W b t u v) (hb : Below W.heap.size W W') : Pair W' b t u v := h.below hb h.lt
/-- A step that keeps what there is. -/
theorem Below.next {B : Nat} {W X Y : World} (h : Below B W X) (hB : B ≤ W.heap.size) (k : Below X.heap.size X Y) : Below B W Y := h.trans (k.mono (Nat.le_trans hB h.size))
theorem shown1 : readN [45, 49, 50, 46, 53, 48] = (-125, 1, 0) := by decide
theorem shown2 : intN [48, 49, 48, 48] = (100, 0, 0) := by decide
theorem shown3 : toN (-125) 1 3 = (-12500, 0) := by decide
theorem shown4 : printN (-5) 2 = [45, 48, 46, 48, 53] := by
  have h1 : Lib.decDigits 0 = [48] := by rw [Lib.decDigits_one (by omega)]; rfl
  have h2 : Lib.decDigits 105 = [49, 48, 53] := by
    rw [Lib.decDigits, dif_neg (by omega)]
    rw [Lib.decDigits_two (by omega) (by omega)]; rfl
  show [45] ++ (Lib.decDigits (5 / 10 ^ 2) ++ 46 :: (Lib.decDigits (10 ^ 2 + 5 % 10 ^ 2)).drop 1) = _
  rw [show 5 / 10 ^ 2 = 0 from rfl, show 10 ^ 2 + 5 % 10 ^ 2 = 105 from rfl, h1, h2]
  rfl
theorem shown5 : cmpN (-125) 1 (-12) 0 = -1 := by decide

set_option maxHeartbeats 1000000 in
theorem Tryd.shown_any (w : World) (ht : Tab w) : Calls Tryd.prog 10 #[] w fun e w' => e = .returned (.bool true) ∧ Below w.heap.size w w' := by
  have H1 : Hid (∀ W, Calls Tryd.prog 13 #[.string ⟨#[45, 49, 50, 46, 53, 48]⟩] W fun e w' => e = .returned (.tuple #[.agg #[.int .i64 (-125), .int .i64 1], .int .i64 0]) ∧ Below W.heap.size W w') := by
    intro W
    have := Tryd.Read_any [45, 49, 50, 46, 53, 48] (by decide) W
    rw [shown1] at this
    exact this
  have H2 : Hid (∀ W, Calls Tryd.prog 11 #[.string ⟨#[48, 49, 48, 48]⟩] W fun e w' => e = .returned (.tuple #[.int .i64 100, .int .i64 0]) ∧ Below W.heap.size W w') := by
    intro W
    have := Tryd.Int_any [48, 49, 48, 48] (by decide) W
    rw [shown2] at this
    exact this
  have H3 : Hid (∀ W, Calls Tryd.prog 22 #[.agg #[.int .i64 (-125), .int .i64 1], .int .i64 3] W fun e w' => e = .returned (.tuple #[.int .i64 (-12500), .int .i64 0]) ∧ Below W.heap.size W w') := by
    intro W
    have := Tryd.To_any (-125) 1 3 (by decide) W
    rw [shown3] at this
    exact this
  have H4 : Hid (∀ W, Tab W → Calls Tryd.prog 16 #[.agg #[.int .i64 (-5), .int .i64 2]] W fun e w' => e = .returned (.string ⟨#[45, 48, 46, 48, 53]⟩) ∧ Below W.heap.size W w') := by
    intro W hW
    have := Tryd.Print_any (-5) 2 (by decide) W hW
    rw [shown4] at this
    exact this
  have H5 : Hid (∀ W, Calls Tryd.prog 20 #[.agg #[.int .i64 (-125), .int .i64 1], .agg #[.int .i64 (-12), .int .i64 0]] W fun e w' => e = .returned (.int .i64 (-1)) ∧ Below W.heap.size W w') := by
    intro W
    have := Tryd.Cmp_any (-125) 1 (-12) 0 (by decide) (by decide) W
    rw [shown5] at this
    exact this
  have HT := Lib.hid ht
  clear ht
  go_enter Tryd.func10, Tryd.ntmps10
  go_wp2_with (go_at_call 13; refine (H1.out _).mono ?_; rintro e w1 ⟨rfl, hb1⟩; have k1 := Below.alloc hb1 hb1.size (.cells #[.int .i64 (-125), .int .i64 1] 27); have p1 := Pair.new w1 27 (.int .i64 (-125)) (.int .i64 1))
  go_wp2_with (go_at_call 11; refine (H2.out _).mono ?_; rintro e w2 ⟨rfl, hb2⟩; have k2 := Below.next k1 (Nat.le_refl _) hb2; have p2 := p1.next hb2; have c0 := p2.c0; have c1 := p2.c1)
  clear p1 k1 hb2
  go_wp2_with (go_at_call 22; refine (H3.out _).mono ?_; rintro e w3 ⟨rfl, hb3⟩; have k3 := Below.next k2 (Nat.le_refl _) hb3; have p3 := p2.next hb3; clear c0 c1; have c0 := p3.c0; have c1 := p3.c1)
  clear p2 k2 hb3
  go_wp2_with (go_at_call 16; refine (H4.out _ (HT.out.below k3)).mono ?_; rintro e w4 ⟨rfl, hb4⟩; have k4 := Below.next k3 (Nat.le_refl _) hb4; have p4 := p3.next hb4; clear c0 c1; have c0 := p4.c0; have c1 := p4.c1)
  clear p3 k3 hb4
  go_wp2_with (go_at_call 20; refine (H5.out _).mono ?_; rintro e w5 ⟨rfl, hb5⟩; have k5 := Below.next k4 (Nat.le_refl _) hb5)
  go_ret
  exact ⟨rfl, k5⟩
#print axioms Tryd.shown_any
end Go.Proofs
