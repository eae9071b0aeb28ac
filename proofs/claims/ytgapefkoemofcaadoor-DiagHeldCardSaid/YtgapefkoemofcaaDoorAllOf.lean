/- diag.All. Conditions: at most two million lists, of at most two million each. -/
import Derived.Test.YtgapefkoemofcaaDoorAll
namespace Go.Dg
theorem allS_snoc (l : List Mk) (d : Mk) : allS (l ++ [d]) = putS (allS l) d := by simp [allS]
theorem flat_take {ll : List (List Mk)} {k : Nat} {l : List Mk} (h : ll[k]? = some l) : (ll.take (k + 1)).flatten = (ll.take k).flatten ++ l := by
  rw [take_get h]; simp
end Go.Dg
namespace Go.Proofs
open Go.RowKit Go.Dg
attribute [local go_sem] Oper.semAt_some
attribute [local go_sem ↓] Go.wp_at_zero Go.wp_at_succ
set_option maxRecDepth 100000 in
set_option maxHeartbeats 4000000 in
theorem Tryd.All_any (v : Value) (ll : List (List Mk)) (w : World) (hl : ll.length ≤ 2000000) (hls : ∀ l ∈ ll, l.length ≤ 2000000) (hv : HasLists w v ll) :
    Calls Tryd.prog 10 #[v] w fun e w' => ∃ v', e = .returned v' ∧ w'.ownsRow w.heap.size 25 2 v' (allS ll.flatten).length (cellsOf (allS ll.flatten)) ∧ Below w.heap.size w w' := by
  have hal := len_allS ll.flatten
  have HDg : Hid (∀ v W, HasDiags W v (allS ll.flatten) → Calls Tryd.prog 24 #[v] W fun e w' => ∃ v', e = .returned v' ∧ w'.ownsRow W.heap.size 25 2 v' (allS ll.flatten).length (cellsOf (allS ll.flatten)) ∧ Below W.heap.size W w') := fun v W h => Tryd.diags_any v _ W (by omega) h
  have HP : Hid (∀ v m d W, W.ownsRow w.heap.size 47 2 v (allS m).length (cellsOf (allS m)) → w.heap.size ≤ W.heap.size → Calls Tryd.prog 23 #[v, .agg #[.int .i64 d.1, .int .i64 d.2]] W fun e w' => ∃ v', e = .returned v' ∧ w'.ownsRow w.heap.size 47 2 v' (allS (m ++ [d])).length (cellsOf (allS (m ++ [d]))) ∧ Below w.heap.size W w') := fun v m d W h1 h2 => by
    rw [allS_snoc]
    exact Tryd.put_any w.heap.size v (allS m) d W (srt_allS m) (len_allS m) h1 h2
  have HLs := Lib.hid hls
  clear hal hls
  rcases hv with ⟨rfl, ao, cap, rfl⟩ | ⟨b, off, cap, rfl, hlc, hcm, hd⟩
  · have HE : Hid (∀ W, HasDiags W (.slice none 0 0) (allS ([] : List (List Mk)).flatten)) := fun W => .inl ⟨rfl, none, 0, rfl⟩
    clear hl HLs HP
    go_enter Tryd.func10, Tryd.ntmps10
    go_wp2
    go_loopw [3, 10] (fun v' i wr => i = .int .i64 0 ∧ v' = .slice none 0 0 ∧ Below w.heap.size w wr) (fun _ _ _ => 0)
    case atStart => exact ⟨rfl, rfl, Below.refl _ _⟩
    case round =>
      obtain ⟨rfl, rfl, hB⟩ := hrel
      have hs := hB.size
      go_wp2_with (go_at_call 24; (with_reducible refine Calls.mono (HDg.out _ _ (HE.out _)) ?_); rintro e w4 ⟨v4, rfl, ho4, hb4⟩; have HO := Lib.hid ho4; clear ho4)
      go_ret
      exact ⟨_, rfl, ownsRow_base HO.out hs, hB.trans (hb4.mono hs)⟩
  · have HD := Lib.hid hd
    have hbl := hd.1
    unfold maxLen at hcm
    clear hd
    go_enter Tryd.func10, Tryd.ntmps10
    go_wp2
    go_loopw [3, 10] (fun v' i wr => ∃ k : Nat, k ≤ ll.length ∧ i = .int .i64 (k : Int) ∧ wr.ownsRow w.heap.size 47 2 v' (allS (ll.take k).flatten).length (cellsOf (allS (ll.take k).flatten)) ∧ Below w.heap.size w wr) (fun _ i _ => ll.length - (intOf i).toNat)
    case atStart => exact ⟨0, Nat.zero_le _, rfl, World.ownsRow_nil _ _ _ _, Below.refl _ _⟩
    case round =>
      obtain ⟨k, hk, rfl, hown, hB⟩ := hrel
      have hB1 : w.heap.size ≤ wr.heap.size := hB.size
      have HO := Lib.hid hown
      clear hown
      by_cases hlt : k < ll.length
      · obtain ⟨l, hp⟩ : ∃ l, ll[k]? = some l := ⟨_, List.getElem?_eq_getElem hlt⟩
        obtain ⟨u, x0, hu⟩ := HD.out.2 k l hp
        replace x0 := (hB.cell (p := ⟨b, off + k, none⟩) hbl).trans x0
        have hll := HLs.out l (List.mem_of_getElem? hp)
        have HT := Lib.hid (flat_take hp)
        have hbr : b < wr.heap.size := Nat.lt_of_lt_of_le hbl hB1
        clear hp
        rcases hu with ⟨rfl, ao, cap', rfl⟩ | ⟨b', off', cap', rfl, hlc', hcm', hd'⟩
        · clear hll
          rw [List.append_nil] at HT
          go_wp2
          go_loopw [3, 16] (fun v' j w2 => j = .int .i64 0 ∧ w2.ownsRow w.heap.size 47 2 v' (allS (ll.take k).flatten).length (cellsOf (allS (ll.take k).flatten)) ∧ Below w.heap.size w w2) (fun _ _ _ => 0)
          case atStart => exact ⟨rfl, HO.out, hB⟩
          case round =>
            obtain ⟨rfl, hown2, hB2⟩ := hrel
            have HO2 := Lib.hid hown2
            clear hown2 HO
            go_wp2
            go_roundw
            case rel => exact ⟨k + 1, by omega, by go_num, by rw [HT.out]; exact HO2.out, hB2⟩
            case measure => simp [intOf]; omega
        · have HD2 := Lib.hid hd'
          have hbl2 := hd'.1
          unfold maxLen at hcm'
          clear hd'
          go_wp2
          go_loopw [3, 16] (fun v' j w2 => ∃ q : Nat, q ≤ l.length ∧ j = .int .i64 (q : Int) ∧ w2.ownsRow w.heap.size 47 2 v' (allS ((ll.take k).flatten ++ l.take q)).length (cellsOf (allS ((ll.take k).flatten ++ l.take q))) ∧ Below w.heap.size w w2) (fun _ j _ => l.length - (intOf j).toNat)
          case atStart => exact ⟨0, Nat.zero_le _, rfl, by rw [List.take_zero, List.append_nil]; exact HO.out, hB⟩
          case round =>
            obtain ⟨q, hq, rfl, hown2, hB2⟩ := hrel
            have HO2 := Lib.hid hown2
            clear hown2 HO
            have hs2 : w.heap.size ≤ wr.heap.size := hB2.size
            by_cases hlt2 : q < l.length
            · obtain ⟨p, hp⟩ : ∃ p, l[q]? = some p := ⟨_, List.getElem?_eq_getElem hlt2⟩
              obtain ⟨y0, y1⟩ := HD2.out.read hp
              replace y0 := (hB2.cell (p := ⟨b', off' + q * 2, none⟩) hbl2).trans y0
              replace y1 := (hB2.cell (p := ⟨b', off' + q * 2 + 1, none⟩) hbl2).trans y1
              have hbr2 : b' < wr.heap.size := Nat.lt_of_lt_of_le hbl2 hs2
              have HT2 := Lib.hid (take_get hp)
              clear hp
              go_wp2_with (go_at_call 23; (with_reducible refine Calls.mono (HP.out _ ((ll.take k).flatten ++ l.take q) p _ (HO2.out.alloc _) (by simp; omega)) ?_); rintro e w4 ⟨v4, rfl, ho4, hb4⟩; have HO4 := Lib.hid ho4; clear ho4)
              go_roundw
              case rel => exact ⟨q + 1, by omega, by go_num, by rw [HT2.out, ← List.append_assoc]; exact HO4.out, (hB2.alloc hs2 _).trans hb4⟩
              case measure => simp [intOf]; omega
            · obtain rfl : q = l.length := by omega
              have HO3 : Hid (wr.ownsRow w.heap.size 47 2 u3 (allS (ll.take (k + 1)).flatten).length (cellsOf (allS (ll.take (k + 1)).flatten))) := by
                have := HO2.out
                rw [List.take_length, ← HT.out] at this
                exact this
              clear HO2
              go_wp2
              go_roundw
              case rel => exact ⟨k + 1, by omega, by go_num, HO3.out, hB2⟩
              case measure => simp [intOf]; omega
      · obtain rfl : k = ll.length := by omega
        rw [List.take_length] at HO
        have HH := Lib.hid (has_of_owns HO.out)
        go_wp2_with (go_at_call 24; (with_reducible refine Calls.mono (HDg.out _ _ HH.out) ?_); rintro e w4 ⟨v4, rfl, ho4, hb4⟩; have HO4 := Lib.hid ho4; clear ho4)
        go_ret
        exact ⟨_, rfl, ownsRow_base HO4.out hB1, hB.trans (hb4.mono hB1)⟩
#print axioms Tryd.All_any
end Go.Proofs
