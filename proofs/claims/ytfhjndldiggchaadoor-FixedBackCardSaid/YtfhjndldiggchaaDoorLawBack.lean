/- The law FixedBack, as a contract. Conditions: the integers that an int holds; the table of powers of ten holds what the card lays. -/
import Derived.Test.YtfhjndldiggchaaDoorBack
namespace Go.Proofs
open Go.RowKit Go.Fx
attribute [local go_sem] Oper.semAt_some

set_option maxHeartbeats 1000000 in
theorem Tryd.FixedBack_not (m s : Int) (hx : ¬ mayB m s = true) (w : World) (ht : Tab w) :
    Calls Tryd.prog 7 #[.agg #[.int .i64 m, .int .i64 s]] w fun e w' => e = .returned (.bool true) ∧ Below w.heap.size w w' := by
  have HS : Hid (∀ W, Tab W → Calls Tryd.prog 10 #[] W fun e w' => e = .returned (.bool true) ∧ Below W.heap.size W w') := fun W h => Tryd.shown_any W h
  have HT := Lib.hid ht
  have HX := Lib.hid hx
  have hA := ((Below.refl _ w).alloc (Nat.le_refl _) (.cells #[.int .i64 m, .int .i64 s] 27)).alloc (by simp) (.cells #[.int .i64 m, .int .i64 s] 27)
  clear ht hx
  go_enter Tryd.func7, Tryd.ntmps7
  go_wp2_with (first | (go_at_call 15; refine (Tryd.good_no HX.out _).mono ?_; rintro e w' ⟨rfl, rfl⟩) | (go_at_call 10; refine (HS.out _ (HT.out.below hA)).mono ?_; rintro e w1 ⟨rfl, hb1⟩))
  go_ret
  exact ⟨rfl, Below.next hA (Nat.le_refl _) hb1⟩

set_option maxRecDepth 100000 in
set_option maxHeartbeats 4000000 in
theorem Tryd.Back_walk (m s x y M S E k f : Int) (l : List UInt8) (hx : mayB m s = true)
    (GP : Hid (∀ W, Tab W → Calls Tryd.prog 16 #[.agg #[.int .i64 m, .int .i64 s]] W fun e w' => e = .returned (.string ⟨l.toArray⟩) ∧ Below W.heap.size W w'))
    (GL : Hid (∀ W, Calls Tryd.prog 18 #[.agg #[.int .i64 m, .int .i64 s]] W fun e w' => e = .returned (.agg #[.int .i64 x, .int .i64 y]) ∧ Below W.heap.size W w'))
    (GR : Hid (∀ W, Calls Tryd.prog 13 #[.string ⟨l.toArray⟩] W fun e w' => e = .returned (.tuple #[.agg #[.int .i64 M, .int .i64 S], .int .i64 E]) ∧ Below W.heap.size W w'))
    (GI : Hid (∀ W, Calls Tryd.prog 11 #[.string ⟨l.toArray⟩] W fun e w' => e = .returned (.tuple #[.int .i64 k, .int .i64 f]) ∧ Below W.heap.size W w'))
    (hH : BackH m s x y M S E k f) (w : World) (ht : Tab w) :
    Calls Tryd.prog 7 #[.agg #[.int .i64 m, .int .i64 s]] w fun e w' => e = .returned (.bool true) ∧ Below w.heap.size w w' := by
  have HS : Hid (∀ W, Tab W → Calls Tryd.prog 10 #[] W fun e w' => e = .returned (.bool true) ∧ Below W.heap.size W w') := fun W h => Tryd.shown_any W h
  have HT := Lib.hid ht
  obtain ⟨a1, a2, a3, a4⟩ := mayB_of hx
  have p0 := Pair.new w 27 (.int .i64 m) (.int .i64 s)
  have kA := ((Below.refl _ w).alloc (Nat.le_refl _) (.cells #[.int .i64 m, .int .i64 s] 27)).alloc (by simp) (.cells #[.int .i64 m, .int .i64 s] 27)
  have pA : Pair ((w.alloc (.cells #[.int .i64 m, .int .i64 s] 27)).alloc (.cells #[.int .i64 m, .int .i64 s] 27)) w.heap.size 27 (.int .i64 m) (.int .i64 s) := Pair.below p0 (Below.alloc (Below.refl (w.heap.size + 1) _) (by simp) _) (by omega)
  clear ht hx p0
  rcases hH with ⟨e1, e2⟩ | ⟨e1, e2⟩ | ⟨e1, e2, rfl, rfl, rfl, e3, rfl⟩ | ⟨e1, e2, rfl, rfl, rfl, rfl, rfl, rfl⟩
  case inl =>
    go_enter Tryd.func7, Tryd.ntmps7
    go_wp2_with (go_at_call 15; refine (Tryd.good_in _ _ (by omega) (by omega) (by omega) (by omega) _).mono ?_; rintro e w' ⟨rfl, rfl⟩)
    go_wp2_with (go_at_call 10; refine (HS.out _ (HT.out.below kA)).mono ?_; rintro e w1 ⟨rfl, hb⟩; have k1 := Below.next kA (Nat.le_refl _) hb; have p1 := Pair.next pA hb; clear pA kA hb; have c0 := p1.c0; have c1 := p1.c1)
    go_wp2_with (go_at_call 16; refine (GP.out _ (HT.out.below k1)).mono ?_; rintro e w2 ⟨rfl, hb⟩; have k2 := Below.next k1 (Nat.le_refl _) hb; have p2 := Pair.next p1 hb; clear p1 k1 hb c0 c1; have c0 := p2.c0; have c1 := p2.c1)
    go_wp2_with (go_at_call 18; refine (GL.out _).mono ?_; rintro e w3 ⟨rfl, hb⟩; have k3 := Below.next k2 (Nat.le_refl _) hb; have p3 := Pair.next p2 hb; clear p2 k2 hb c0 c1)
    have kL := Below.alloc k3 k3.size (.cells #[.int .i64 x, .int .i64 y] 27)
    have q3 := Pair.new w3 27 (.int .i64 x) (.int .i64 y)
    have pL := Pair.next p3 (Below.alloc (Below.refl w3.heap.size w3) (Nat.le_refl _) (.cells #[.int .i64 x, .int .i64 y] 27))
    clear p3 k3
    go_wp2_with (go_at_call 13; refine (GR.out _).mono ?_; rintro e w4 ⟨rfl, hb⟩; have k4 := Below.next kL (Nat.le_refl _) hb; have p4 := Pair.next pL hb; have q4 := Pair.next q3 hb; clear pL q3 kL hb; have c0 := p4.c0; have c1 := p4.c1; have d0 := q4.c0; have d1 := q4.c1; have hz1 := p4.lt; have hz2 := q4.lt)
    go_ret
    exact ⟨rfl, Below.alloc k4 k4.size _⟩
  case inr.inl =>
    go_enter Tryd.func7, Tryd.ntmps7
    go_wp2_with (go_at_call 15; refine (Tryd.good_in _ _ (by omega) (by omega) (by omega) (by omega) _).mono ?_; rintro e w' ⟨rfl, rfl⟩)
    go_wp2_with (go_at_call 10; refine (HS.out _ (HT.out.below kA)).mono ?_; rintro e w1 ⟨rfl, hb⟩; have k1 := Below.next kA (Nat.le_refl _) hb; have p1 := Pair.next pA hb; clear pA kA hb; have c0 := p1.c0; have c1 := p1.c1)
    go_wp2_with (go_at_call 16; refine (GP.out _ (HT.out.below k1)).mono ?_; rintro e w2 ⟨rfl, hb⟩; have k2 := Below.next k1 (Nat.le_refl _) hb; have p2 := Pair.next p1 hb; clear p1 k1 hb c0 c1; have c0 := p2.c0; have c1 := p2.c1)
    go_wp2_with (go_at_call 18; refine (GL.out _).mono ?_; rintro e w3 ⟨rfl, hb⟩; have k3 := Below.next k2 (Nat.le_refl _) hb; have p3 := Pair.next p2 hb; clear p2 k2 hb c0 c1)
    have kL := Below.alloc k3 k3.size (.cells #[.int .i64 x, .int .i64 y] 27)
    have q3 := Pair.new w3 27 (.int .i64 x) (.int .i64 y)
    have pL := Pair.next p3 (Below.alloc (Below.refl w3.heap.size w3) (Nat.le_refl _) (.cells #[.int .i64 x, .int .i64 y] 27))
    clear p3 k3
    go_wp2_with (go_at_call 13; refine (GR.out _).mono ?_; rintro e w4 ⟨rfl, hb⟩; have k4 := Below.next kL (Nat.le_refl _) hb; have p4 := Pair.next pL hb; have q4 := Pair.next q3 hb; clear pL q3 kL hb; have c0 := p4.c0; have c1 := p4.c1; have d0 := q4.c0; have d1 := q4.c1; have hz1 := p4.lt; have hz2 := q4.lt)
    go_ret
    exact ⟨rfl, Below.alloc k4 k4.size _⟩
  case inr.inr.inl =>
    go_enter Tryd.func7, Tryd.ntmps7
    go_wp2_with (go_at_call 15; refine (Tryd.good_in _ _ (by omega) (by omega) (by omega) (by omega) _).mono ?_; rintro e w' ⟨rfl, rfl⟩)
    go_wp2_with (go_at_call 10; refine (HS.out _ (HT.out.below kA)).mono ?_; rintro e w1 ⟨rfl, hb⟩; have k1 := Below.next kA (Nat.le_refl _) hb; have p1 := Pair.next pA hb; clear pA kA hb; have c0 := p1.c0; have c1 := p1.c1)
    go_wp2_with (go_at_call 16; refine (GP.out _ (HT.out.below k1)).mono ?_; rintro e w2 ⟨rfl, hb⟩; have k2 := Below.next k1 (Nat.le_refl _) hb; have p2 := Pair.next p1 hb; clear p1 k1 hb c0 c1; have c0 := p2.c0; have c1 := p2.c1)
    go_wp2_with (go_at_call 18; refine (GL.out _).mono ?_; rintro e w3 ⟨rfl, hb⟩; have k3 := Below.next k2 (Nat.le_refl _) hb; have p3 := Pair.next p2 hb; clear p2 k2 hb c0 c1)
    have kL := Below.alloc k3 k3.size (.cells #[.int .i64 M, .int .i64 S] 27)
    have q3 := Pair.new w3 27 (.int .i64 M) (.int .i64 S)
    have pL := Pair.next p3 (Below.alloc (Below.refl w3.heap.size w3) (Nat.le_refl _) (.cells #[.int .i64 M, .int .i64 S] 27))
    clear p3 k3
    go_wp2_with (go_at_call 13; refine (GR.out _).mono ?_; rintro e w4 ⟨rfl, hb⟩; have k4 := Below.next kL (Nat.le_refl _) hb; have p4 := Pair.next pL hb; have q4 := Pair.next q3 hb; clear pL q3 kL hb; have c0 := p4.c0; have c1 := p4.c1; have d0 := q4.c0; have d1 := q4.c1; have hz1 := p4.lt; have hz2 := q4.lt)
    have kM := Below.alloc k4 k4.size (.cells #[.int .i64 M, .int .i64 S] 27)
    have pM := Pair.next p4 (Below.alloc (Below.refl w4.heap.size w4) (Nat.le_refl _) (.cells #[.int .i64 M, .int .i64 S] 27))
    have qM := Pair.next q4 (Below.alloc (Below.refl w4.heap.size w4) (Nat.le_refl _) (.cells #[.int .i64 M, .int .i64 S] 27))
    have rM := Pair.new w4 27 (.int .i64 M) (.int .i64 S)
    clear p4 q4 k4 c0 c1 d0 d1 hz1 hz2
    go_wp2_with (go_at_call 11; refine (GI.out _).mono ?_; rintro e w5 ⟨rfl, hb⟩; have k5 := Below.next kM (Nat.le_refl _) hb; have p5 := Pair.next pM hb; have q5 := Pair.next qM hb; have r5 := Pair.next rM hb; clear pM qM rM kM hb; have c0 := p5.c0; have c1 := p5.c1; have d0 := q5.c0; have d1 := q5.c1; have f0 := r5.c0; have f1 := r5.c1)
    go_ret
    exact ⟨rfl, k5⟩
  case inr.inr.inr =>
    go_enter Tryd.func7, Tryd.ntmps7
    go_wp2_with (go_at_call 15; refine (Tryd.good_in _ _ (by omega) (by omega) (by omega) (by omega) _).mono ?_; rintro e w' ⟨rfl, rfl⟩)
    go_wp2_with (go_at_call 10; refine (HS.out _ (HT.out.below kA)).mono ?_; rintro e w1 ⟨rfl, hb⟩; have k1 := Below.next kA (Nat.le_refl _) hb; have p1 := Pair.next pA hb; clear pA kA hb; have c0 := p1.c0; have c1 := p1.c1)
    go_wp2_with (go_at_call 16; refine (GP.out _ (HT.out.below k1)).mono ?_; rintro e w2 ⟨rfl, hb⟩; have k2 := Below.next k1 (Nat.le_refl _) hb; have p2 := Pair.next p1 hb; clear p1 k1 hb c0 c1; have c0 := p2.c0; have c1 := p2.c1)
    go_wp2_with (go_at_call 18; refine (GL.out _).mono ?_; rintro e w3 ⟨rfl, hb⟩; have k3 := Below.next k2 (Nat.le_refl _) hb; have p3 := Pair.next p2 hb; clear p2 k2 hb c0 c1)
    have kL := Below.alloc k3 k3.size (.cells #[.int .i64 M, .int .i64 S] 27)
    have q3 := Pair.new w3 27 (.int .i64 M) (.int .i64 S)
    have pL := Pair.next p3 (Below.alloc (Below.refl w3.heap.size w3) (Nat.le_refl _) (.cells #[.int .i64 M, .int .i64 S] 27))
    clear p3 k3
    go_wp2_with (go_at_call 13; refine (GR.out _).mono ?_; rintro e w4 ⟨rfl, hb⟩; have k4 := Below.next kL (Nat.le_refl _) hb; have p4 := Pair.next pL hb; have q4 := Pair.next q3 hb; clear pL q3 kL hb; have c0 := p4.c0; have c1 := p4.c1; have d0 := q4.c0; have d1 := q4.c1; have hz1 := p4.lt; have hz2 := q4.lt)
    have kM := Below.alloc k4 k4.size (.cells #[.int .i64 M, .int .i64 S] 27)
    have pM := Pair.next p4 (Below.alloc (Below.refl w4.heap.size w4) (Nat.le_refl _) (.cells #[.int .i64 M, .int .i64 S] 27))
    have qM := Pair.next q4 (Below.alloc (Below.refl w4.heap.size w4) (Nat.le_refl _) (.cells #[.int .i64 M, .int .i64 S] 27))
    have rM := Pair.new w4 27 (.int .i64 M) (.int .i64 S)
    clear p4 q4 k4 c0 c1 d0 d1 hz1 hz2
    go_wp2_with (go_at_call 11; refine (GI.out _).mono ?_; rintro e w5 ⟨rfl, hb⟩; have k5 := Below.next kM (Nat.le_refl _) hb; have p5 := Pair.next pM hb; have q5 := Pair.next qM hb; have r5 := Pair.next rM hb; clear pM qM rM kM hb; have c0 := p5.c0; have c1 := p5.c1; have d0 := q5.c0; have d1 := q5.c1; have f0 := r5.c0; have f1 := r5.c1)
    go_ret
    exact ⟨rfl, k5⟩
#print axioms Tryd.Back_walk
theorem Tryd.FixedBack_calls (m s : Int) (w : World) (ht : Tab w) :
    Calls Tryd.prog 7 #[.agg #[.int .i64 m, .int .i64 s]] w fun e w' => e = .returned (.bool true) ∧ Below w.heap.size w w' := by
  by_cases hx : mayB m s = true
  · obtain ⟨a1, a2, a3, a4⟩ := mayB_of hx
    obtain ⟨n, rfl⟩ : ∃ n : Nat, s = (n : Int) := ⟨s.toNat, by omega⟩
    have hl := print_short m n (by omega) (by omega)
    exact Tryd.Back_walk m n _ _ _ _ _ _ _ (printN m n) hx (fun W hW => Tryd.Print_any m n hx W hW) (fun W => Tryd.Least_any m n (by omega) (by omega) (by omega) W)
      (fun W => Tryd.Read_any _ (by omega) W) (fun W => Tryd.Int_any _ (by omega) W) (back_all m n (by omega) a3 a4) w ht
  · exact Tryd.FixedBack_not m s hx w ht
#print axioms Tryd.FixedBack_calls
end Go.Proofs
