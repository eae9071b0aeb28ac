/- The law DiagLines, as a contract. Conditions: the integers that the kinds hold; the table of powers of ten holds what the card lays. -/
import Derived.Test.YtgapefkoemofcaaDoorShown
namespace Go.Cur
theorem where_ahead (A s : List UInt8) (h : ∀ c ∈ A, c ≠ 10) : ∀ j : Nat, j ≤ A.length → whereL (spans (A ++ 10 :: s)) (j : Int) 0 = (1, (j : Int) + 1, 0)
  | 0, _ => where_zero _
  | j + 1, hj => by
    have hlt : j < A.length := by omega
    have ih := where_ahead A s h j (by omega)
    have hn := where_next (A ++ 10 :: s) j (by simp; omega)
    have hne : (A ++ 10 :: s)[j]? ≠ some 10 := by
      rw [List.getElem?_append_left hlt, List.getElem?_eq_getElem hlt]
      exact fun e => h _ (List.getElem_mem hlt) (Option.some.inj e)
    rw [if_neg hne, ih] at hn
    rw [hn]
    refine Prod.ext rfl (Prod.ext ?_ rfl)
    simp
theorem where_behind (A s : List UInt8) (h : ∀ c ∈ A, c ≠ 10) : ∀ k : Nat, k ≤ s.length → whereL (spans (A ++ 10 :: s)) ((k + A.length + 1 : Nat) : Int) 0 = ((whereL (spans s) (k : Int) 0).1 + 1, (whereL (spans s) (k : Int) 0).2.1, 0)
  | 0, _ => by
    have hn := where_next (A ++ 10 :: s) A.length (by simp)
    rw [if_pos (by simp), where_ahead A s h A.length (Nat.le_refl _)] at hn
    rw [show 0 + A.length + 1 = A.length + 1 from by omega, hn, show ((0 : Nat) : Int) = 0 from rfl, where_zero]
  | k + 1, hk => by
    have hlt : k < s.length := by omega
    have ih := where_behind A s h k (by omega)
    have hn := where_next (A ++ 10 :: s) (k + A.length + 1) (by simp; omega)
    have hm := where_next s k hlt
    have hg : (A ++ 10 :: s)[k + A.length + 1]? = s[k]? := by
      rw [List.getElem?_append_right (by omega), show k + A.length + 1 - A.length = k + 1 from by omega, List.getElem?_cons_succ]
    rw [hg, ih] at hn
    rw [show k + 1 + A.length + 1 = k + A.length + 1 + 1 from by omega, hn, hm]
    split <;> rfl
end Go.Cur
namespace Go.Proofs
open Go.RowKit Go.Dg Go.Cur
attribute [local go_sem] Oper.semAt_some
attribute [local go_sem ↓] Go.wp_at_zero Go.wp_at_succ
theorem whereAll_nat (l : List UInt8) (k : Nat) : whereAll l (k : Int) = whereL (spans l) (k : Int) 0 := by unfold whereAll; rw [if_neg (by omega)]
theorem told_law (X Y N : List UInt8) : (⟨#[108, 105, 110, 101, 32]⟩ : ByteArray) ++ ⟨X.toArray⟩ ++ (⟨#[44, 32, 99, 111, 108, 117, 109, 110, 32]⟩ ++ ⟨Y.toArray⟩ ++ ⟨#[58, 32, 101, 114, 114, 111, 114, 32]⟩ ++ ⟨N.toArray⟩) = ⟨(told X Y N).toArray⟩ := by
  apply ByteArray.ext
  apply Array.ext'
  simp [told, sLine, sCol, sSep, sErr]
theorem joined_list (a s : ByteArray) : (a ++ ⟨#[10]⟩ ++ s).data.toList = a.data.toList ++ 10 :: s.data.toList := by
  simp
set_option maxRecDepth 100000 in
set_option maxHeartbeats 4000000 in
theorem Tryd.DiagLines_calls (a s : ByteArray) (at' code : Int) (ha : a.size ≤ maxLen) (hs : s.size ≤ maxLen) (h0 : 0 ≤ at') (h1 : at' ≤ 65535) (c0 : -2147483648 ≤ code) (c1 : code ≤ 2147483647) (w : World) (ht : Tab w) :
    Calls Tryd.prog 7 #[.string a, .string s, .int .u16 at', .int .i32 code] w fun e w' => e = .returned (.bool true) ∧ Below w.heap.size w w' := by
  have HS : Hid (∀ W, Tab W → Calls Tryd.prog 9 #[] W fun e w' => e = .returned (.bool true) ∧ Below W.heap.size W w') := fun W h => Tryd.shown_any W h
  have HT := Lib.hid ht
  unfold maxLen at ha hs
  by_cases hbig : 500 < a.size ∨ 500 < s.size
  · have hb : (500 < a.size) ∨ (¬ 500 < a.size ∧ 500 < s.size) := by omega
    clear hbig ht
    rcases hb with hb | ⟨hb, hb2⟩
    · have hd : decide ((500 : Int) < (a.size : Int)) = true := decide_eq_true (by omega)
      clear hb
      go_enter Tryd.func7, Tryd.ntmps7
      go_wp2_with (go_at_call 9; (with_reducible refine (HS.out _ HT.out).mono ?_); rintro e w1 ⟨rfl, hb1⟩)
      go_ret
      exact ⟨rfl, hb1⟩
    · have hd : decide ((500 : Int) < (a.size : Int)) = false := decide_eq_false (by omega)
      have hd2 : decide ((500 : Int) < (s.size : Int)) = true := decide_eq_true (by omega)
      clear hb hb2
      go_enter Tryd.func7, Tryd.ntmps7
      go_wp2_with (go_at_call 9; (with_reducible refine (HS.out _ HT.out).mono ?_); rintro e w1 ⟨rfl, hb1⟩)
      go_ret
      exact ⟨rfl, hb1⟩
  · have ha5 : a.size ≤ 500 := by omega
    have hs5 : s.size ≤ 500 := by omega
    have hd : decide ((500 : Int) < (a.size : Int)) = false := decide_eq_false (by omega)
    have hd2 : decide ((500 : Int) < (s.size : Int)) = false := decide_eq_false (by omega)
    clear hbig ht ha hs
    go_enter Tryd.func7, Tryd.ntmps7
    go_wp2_with (go_at_call 9; (with_reducible refine (HS.out _ HT.out).mono ?_); rintro e w1 ⟨rfl, hb1⟩)
    have HT1 := Lib.hid (HT.out.next hb1)
    have HB1 := Lib.hid hb1
    clear HT HS hb1
    go_loop [9] (fun i => ∃ k : Nat, k ≤ a.size ∧ i = .int .i64 (k : Int) ∧ ∀ j, j < k → a.data.toList[j]? ≠ some 10) (fun i => a.size - (intOf i).toNat)
    case atStart => exact ⟨0, Nat.zero_le _, rfl, fun j h => by omega⟩
    case round =>
      obtain ⟨k, hk, rfl, hA⟩ := hrel
      have HA := Lib.hid hA
      clear hA
      by_cases hlt : k < a.size
      · have hgk := list_get a k hlt
        by_cases hb : a[k]'hlt = 10
        · have hbb : (((a[k]'hlt).toNat : Int) == 10) = true := by rw [hb]; rfl
          clear hb hgk
          go_wp2
          go_ret
          exact ⟨rfl, HB1.out⟩
        · have hbb : (((a[k]'hlt).toNat : Int) == 10) = false := by
            rw [beq_eq_false_iff_ne]
            intro e
            exact hb (UInt8.toNat_inj.1 (by have e' : (a[k]'hlt).toNat = 10 := by omega
                                            exact e'))
          have HN : Hid (∀ j, j < k + 1 → a.data.toList[j]? ≠ some 10) := fun j hj => by
            by_cases e : j = k
            · rw [e, hgk]; exact fun h => hb (Option.some.inj h)
            · exact HA.out j (by omega)
          clear hb hgk
          go_wp2
          go_round
          case rel => exact ⟨k + 1, by omega, by go_num, HN.out⟩
          case measure => simp [intOf]; omega
      · obtain rfl : k = a.size := by omega
        have hno : ∀ c ∈ a.data.toList, c ≠ 10 := by
          intro c hc e
          obtain ⟨j, hj, he⟩ := List.getElem_of_mem hc
          exact HA.out j (by simpa using hj) (by rw [List.getElem?_eq_getElem hj, he, e])
        have HNo := Lib.hid hno
        obtain ⟨m, hm⟩ : ∃ m : Nat, at' % ((s.size : Int) + 1) = (m : Int) := ⟨(at' % ((s.size : Int) + 1)).toNat, by have := Int.emod_nonneg at' (show (s.size : Int) + 1 ≠ 0 by omega); omega⟩
        have hms : m ≤ s.size := by have := Int.emod_lt_of_pos at' (show (0 : Int) < (s.size : Int) + 1 by omega); omega
        have hnz : ¬ ((s.size : Int) + 1 = 0) := by omega
        clear hno HA
        go_wp2
        go_loop [11, 12, 13] (fun L C i => ∃ q : Nat, q ≤ m ∧ i = .int .i64 (q : Int) ∧ L = .int .i64 (whereL (spans s.data.toList) (q : Int) 0).1 ∧ C = .int .i64 (whereL (spans s.data.toList) (q : Int) 0).2.1) (fun _ _ i => m - (intOf i).toNat)
        case atStart => exact ⟨0, Nat.zero_le _, rfl, by rw [show (((0 : Nat) : Int)) = 0 from rfl, where_zero], by rw [show (((0 : Nat) : Int)) = 0 from rfl, where_zero]⟩
        case round =>
          obtain ⟨q, hq, rfl, rfl, rfl⟩ := hrel
          have hsl : s.data.toList.length = s.size := by simp
          obtain ⟨p1, p2, p3, p4, p5⟩ := col_pos s.data.toList q (by omega)
          rw [hsl] at p3 p4
          by_cases hlt2 : q < m
          · have hks : q < s.size := by omega
            have hnx := where_next s.data.toList q (by omega)
            rw [list_get s q hks] at hnx
            by_cases hb : s[q]'hks = 10
            · have hbb : (((s[q]'hks).toNat : Int) == 10) = true := by rw [hb]; rfl
              rw [if_pos (by rw [hb])] at hnx
              generalize (whereL (spans s.data.toList) (q : Int) 0).1 = A at *
              generalize (whereL (spans s.data.toList) (q : Int) 0).2.1 = B at *
              have Hn := Lib.hid hnx
              clear hnx hb p5 hsl
              go_wp2
              go_round
              case rel => exact ⟨q + 1, by omega, by go_num, by rw [Hn.out], by rw [Hn.out]⟩
              case measure => simp [intOf]; omega
            · have hbb : (((s[q]'hks).toNat : Int) == 10) = false := by
                rw [beq_eq_false_iff_ne]
                intro e
                exact hb (UInt8.toNat_inj.1 (by have e' : (s[q]'hks).toNat = 10 := by omega
                                                exact e'))
              rw [if_neg (fun e => hb (Option.some.inj e))] at hnx
              generalize (whereL (spans s.data.toList) (q : Int) 0).1 = A at *
              generalize (whereL (spans s.data.toList) (q : Int) 0).2.1 = B at *
              have Hn := Lib.hid hnx
              clear hnx hb p5 hsl
              go_wp2
              go_round
              case rel => exact ⟨q + 1, by omega, by go_num, by rw [Hn.out], by rw [Hn.out]⟩
              case measure => simp [intOf]; omega
          · obtain rfl : q = m := by omega
            have e1 : tellL s.data.toList ((q : Int), code) = told (Lib.itoa (whereL (spans s.data.toList) (q : Int) 0).1) (Lib.itoa (whereL (spans s.data.toList) (q : Int) 0).2.1) (Lib.itoa code) := by
              unfold tellL
              simp only [whereAll_nat]
              rw [if_pos p5]
            have e2 : tellL (a ++ ⟨#[10]⟩ ++ s).data.toList ((q : Int) + (a.size : Int) + 1, code) = told (Lib.itoa ((whereL (spans s.data.toList) (q : Int) 0).1 + 1)) (Lib.itoa (whereL (spans s.data.toList) (q : Int) 0).2.1) (Lib.itoa code) := by
              have hwb := where_behind a.data.toList s.data.toList HNo.out q (by omega)
              have e3 : (q : Int) + (a.size : Int) + 1 = ((q + a.data.toList.length + 1 : Nat) : Int) := by simp
              unfold tellL
              simp only [joined_list]
              rw [e3, whereAll_nat, hwb]
              simp
            have hTs : (a ++ ⟨#[10]⟩ ++ s).size ≤ 1000000 := by
              have : (a ++ ⟨#[10]⟩ ++ s).size = a.size + 1 + s.size := by simp; rfl
              omega
            generalize (whereL (spans s.data.toList) (q : Int) 0).1 = A at *
            generalize (whereL (spans s.data.toList) (q : Int) 0).2.1 = B at *
            have iA : I64 A := ⟨by omega, by omega⟩
            have iA1 : I64 (A + 1) := ⟨by omega, by omega⟩
            have iB : I64 B := ⟨by omega, by omega⟩
            have iC : I64 code := ⟨by omega, by omega⟩
            have lA := itoa_len A iA
            have lA1 := itoa_len (A + 1) iA1
            have lB := itoa_len B iB
            have lC := itoa_len code iC
            have NA : Hid (∀ W, Calls Tryd.prog 22 #[.int .i64 A] W fun e w' => e = .returned (.string ⟨(Lib.itoa A).toArray⟩) ∧ Below W.heap.size W w') := fun W => Tryd.Num_any A iA.1 iA.2 W
            have NA1 : Hid (∀ W, Calls Tryd.prog 22 #[.int .i64 (A + 1)] W fun e w' => e = .returned (.string ⟨(Lib.itoa (A + 1)).toArray⟩) ∧ Below W.heap.size W w') := fun W => Tryd.Num_any (A + 1) iA1.1 iA1.2 W
            have NB : Hid (∀ W, Calls Tryd.prog 22 #[.int .i64 B] W fun e w' => e = .returned (.string ⟨(Lib.itoa B).toArray⟩) ∧ Below W.heap.size W w') := fun W => Tryd.Num_any B iB.1 iB.2 W
            have NC : Hid (∀ W, Calls Tryd.prog 22 #[.int .i64 code] W fun e w' => e = .returned (.string ⟨(Lib.itoa code).toArray⟩) ∧ Below W.heap.size W w') := fun W => Tryd.Num_any code iC.1 iC.2 W
            have T1 : Hid (∀ W, Tab W → Calls Tryd.prog 20 #[.string s, .agg #[.int .i64 (q : Int), .int .i64 code]] W fun e w' => e = .returned (.string ⟨(told (Lib.itoa A) (Lib.itoa B) (Lib.itoa code)).toArray⟩) ∧ Below W.heap.size W w') := fun W h => by
              rw [← e1]; exact Tryd.Tell_any s ((q : Int), code) (by omega) ⟨by simp only; omega, by simp only; omega⟩ iC W h
            have T2 : Hid (∀ W, Tab W → Calls Tryd.prog 20 #[.string (a ++ ⟨#[10]⟩ ++ s), .agg #[.int .i64 ((q : Int) + (a.size : Int) + 1), .int .i64 code]] W fun e w' => e = .returned (.string ⟨(told (Lib.itoa (A + 1)) (Lib.itoa B) (Lib.itoa code)).toArray⟩) ∧ Below W.heap.size W w') := fun W h => by
              rw [← e2]; exact Tryd.Tell_any (a ++ ⟨#[10]⟩ ++ s) ((q : Int) + (a.size : Int) + 1, code) hTs ⟨by simp only; omega, by simp only; omega⟩ iC W h
            have q1 := told_law (Lib.itoa A) (Lib.itoa B) (Lib.itoa code)
            have q2 := told_law (Lib.itoa (A + 1)) (Lib.itoa B) (Lib.itoa code)
            obtain ⟨X, hX⟩ : ∃ X, X = Lib.itoa A := ⟨_, rfl⟩
            obtain ⟨X1, hX1⟩ : ∃ X1, X1 = Lib.itoa (A + 1) := ⟨_, rfl⟩
            obtain ⟨Y, hY⟩ : ∃ Y, Y = Lib.itoa B := ⟨_, rfl⟩
            obtain ⟨N, hN⟩ : ∃ N, N = Lib.itoa code := ⟨_, rfl⟩
            rw [← hX] at NA T1 q1 lA
            rw [← hX1] at NA1 T2 q2 lA1
            rw [← hY] at NB T1 T2 q1 q2 lB
            rw [← hN] at NC T1 T2 q1 q2 lC
            obtain ⟨R1, hR1⟩ : ∃ R1, R1 = told X Y N := ⟨_, rfl⟩
            obtain ⟨R2, hR2⟩ : ∃ R2, R2 = told X1 Y N := ⟨_, rfl⟩
            rw [← hR1] at T1 q1
            rw [← hR2] at T2 q2
            clear hX hX1 hY hN hR1 hR2 e1 e2 iA iA1 iB iC hTs p5 hm
            go_wp2_with (go_at_call 22; (with_reducible refine (NB.out _).mono ?_); rintro e w2 ⟨rfl, hb2⟩)
            go_wp2_with (go_at_call 22; (with_reducible refine (NC.out _).mono ?_); rintro e w3 ⟨rfl, hb3⟩; have t3 := Lib.hid ((HT1.out.next hb2).next hb3))
            go_wp2_with (go_at_call 20; (with_reducible refine (T1.out _ t3.out).mono ?_); rintro e w4 ⟨rfl, hb4⟩; have t4 := Lib.hid (t3.out.next hb4))
            go_wp2_with (go_at_call 20; (with_reducible refine (T2.out _ t4.out).mono ?_); rintro e w5 ⟨rfl, hb5⟩)
            go_wp2_with (go_at_call 22; (with_reducible refine (NA.out _).mono ?_); rintro e w6 ⟨rfl, hb6⟩)
            refine (NA1.out _).mono ?_
            rintro e w7 ⟨rfl, hb7⟩
            go_wp2
            go_ret
            have z1 := HB1.out.size
            have z2 := hb2.size
            have z3 := hb3.size
            have z4 := hb4.size
            have z5 := hb5.size
            have z6 := hb6.size
            exact ⟨rfl, (((((HB1.out.trans (hb2.mono (by omega))).trans (hb3.mono (by omega))).trans (hb4.mono (by omega))).trans (hb5.mono (by omega))).trans (hb6.mono (by omega))).trans (hb7.mono (by omega))⟩
#print axioms Tryd.DiagLines_calls
end Go.Proofs
