/- The document's own Put and All, at every list. Conditions: at most two million. -/
import Derived.Test.YtgapefkoemofcaaDoorRPut
import Derived.Test.YtgapefkoemofcaaDoorAllOf
namespace Go.Dg
/-- What the document's Put has made behind k rounds. -/
def mid (l : List Mk) (d : Mk) (k : Nat) : List Mk := if l[below l d]? = some d then l.take k else if k ≤ below l d then l.take k else l.take (below l d) ++ d :: (l.drop (below l d)).take (k - below l d)
theorem mid_zero (l : List Mk) (d : Mk) : mid l d 0 = [] := by unfold mid; split <;> simp
theorem mid_step {l : List Mk} {d p : Mk} {k : Nat} (hk : k ≠ below l d) (hp : l[k]? = some p) : mid l d (k + 1) = mid l d k ++ [p] := by
  unfold mid
  split
  · exact take_get hp
  · by_cases h : k < below l d
    · rw [if_pos (by omega), if_pos (by omega)]; exact take_get hp
    · rw [if_neg (by omega), if_neg (by omega)]
      have e : (l.drop (below l d))[k - below l d]? = some p := by rw [List.getElem?_drop, ← hp]; congr 1; omega
      rw [show k + 1 - below l d = (k - below l d) + 1 from by omega, take_get e]
      simp
theorem mid_at {l : List Mk} {d p : Mk} (hp : l[below l d]? = some p) : mid l d (below l d + 1) = if p = d then mid l d (below l d) ++ [d] else mid l d (below l d) ++ [d] ++ [p] := by
  unfold mid
  by_cases h : p = d
  · subst h
    rw [if_pos hp, if_pos hp, if_pos rfl]; exact take_get hp
  · have h2 : ¬ l[below l d]? = some d := by rw [hp]; simpa using h
    rw [if_neg h2, if_neg h2, if_neg h, if_neg (by omega), if_pos (Nat.le_refl _)]
    have e : (l.drop (below l d))[0]? = some p := by rw [List.getElem?_drop]; simpa using hp
    rw [show below l d + 1 - below l d = 0 + 1 from by omega, take_get e]
    simp
theorem mid_len (l : List Mk) (d : Mk) {k : Nat} (hk : k ≤ l.length) : (mid l d k).length ≤ k + 1 := by
  have hb := below_le l d
  unfold mid
  split
  · rw [List.length_take]; omega
  · split
    · rw [List.length_take]; omega
    · simp; omega
theorem mid_end (l : List Mk) (d : Mk) : ins d l = if below l d < l.length then mid l d l.length else mid l d l.length ++ [d] := by
  have hb := below_le l d
  rw [ins_eq]
  unfold mid
  by_cases h : l[below l d]? = some d
  · have := (List.getElem?_eq_some_iff.1 h).1
    rw [if_pos h, if_pos this, if_pos h, List.take_length]
  · rw [if_neg h, if_neg h]
    by_cases h2 : below l d < l.length
    · rw [if_pos h2, if_neg (by omega), List.take_of_length_le (l := l.drop (below l d)) (by simp)]
    · have e : below l d = l.length := by omega
      rw [if_neg h2, if_pos (by omega), e]; simp
theorem mid_some {l : List Mk} {d : Mk} (h : below l d < l.length) : 1 ≤ (mid l d l.length).length := by
  unfold mid
  split
  · rw [List.length_take]; omega
  · split <;> (simp; omega)
end Go.Dg
namespace Go.Proofs
open Go.RowKit Go.Dg
attribute [local go_sem] Oper.semAt_some
attribute [local go_sem ↓] Go.wp_at_zero Go.wp_at_succ
set_option maxRecDepth 100000 in
set_option maxHeartbeats 1000000 in
theorem Tryd.rPut_none (ao : Option Addr) (cap : Nat) (d : Mk) (w : World) :
    Calls Tryd.prog 15 #[.slice ao 0 cap, .agg #[.int .i64 d.1, .int .i64 d.2]] w fun e w' => ∃ v', e = .returned v' ∧ w'.ownsRow w.heap.size 25 2 v' 1 (cellsOf [d]) ∧ Below w.heap.size w w' := by
  obtain ⟨i0, hi, hz0, hz1, hz2⟩ := info_parts Tryd.info25
  have HI := Lib.hid hi
  have T0 := (Two.new w (.int .i64 d.1) (.int .i64 d.2) 25).alloc (.cells #[] 25)
  have hb := ((Below.refl _ w).alloc (Nat.le_refl _) (.cells #[.int .i64 d.1, .int .i64 d.2] 25)).alloc (by simp) (.cells #[] 25)
  have O : ((w.alloc (.cells #[.int .i64 d.1, .int .i64 d.2] 25)).alloc (.cells #[] 25)).ownsRow (w.heap.size + 1) 25 2 (.slice (some ⟨w.heap.size + 1, 0, none⟩) 0 0) 0 [] := by
    simpa using owns_empty2 (w.alloc (.cells #[.int .i64 d.1, .int .i64 d.2] 25)) 25 (w.heap.size + 1) (by simp)
  clear hi
  go_enter Tryd.func15, Tryd.ntmps15
  go_wp2
  go_loopw [5, 6, 7] (fun v' f i wr => i = .int .i64 0 ∧ f = .bool false ∧ Two wr w.heap.size (.int .i64 d.1) (.int .i64 d.2) ∧ wr.ownsRow (w.heap.size + 1) 25 2 v' 0 [] ∧ Below w.heap.size w wr ∧ w.heap.size + 1 ≤ wr.heap.size) (fun _ _ _ _ => 0)
  case atStart => exact ⟨rfl, rfl, T0, O, hb, by simp⟩
  case round =>
    obtain ⟨rfl, rfl, ⟨_, c0, c1⟩, hown, hB, hsz⟩ := hrel
    have HO := Lib.hid hown
    clear T0 hb O hown
    go_wp2_with (at_builtin; refine wpList_append_own _ rfl _ _ 28 rfl (w.heap.size + 1) 25 i0 (.agg #[.int .i64 0, .int .i64 0]) 2 16 Tryd.underlying28 HI.out hz0 hz1 hz2 rfl (by decide) _ 0 _ rfl (HO.out.alloc _) ⟨wr.heap.size, 0, none⟩ 1 1 [.int .i64 d.1, .int .i64 d.2] rfl rfl (cells_new2' (by simp)) (by simp [Value.oneCell']) (by unfold maxLen; omega) (by omega) (by simp; omega) ?_; intro v2 w2 hown2 hgrow2 _; have hb2 := grown_below hB (by omega) (ownsRow_base HO.out (by omega)) hgrow2; obtain ⟨g, cp, cur, rfl, hbg, hgg, hnc, hcm2, hcs, htk⟩ := ownsRow_some hown2 (by omega); have hc63 : cp ≤ 9223372036854775807 := (by unfold maxLen at hcm2; omega); have H2 := Lib.hid hown2; clear hgg hcs htk hown2)
    go_ret
    exact ⟨_, rfl, ownsRow_base H2.out (by omega), hb2⟩
theorem Tryd.rPut_any (v : Value) (l : List Mk) (d : Mk) (w : World) (hl : l.length ≤ 2000000) (hv : HasDiags w v l) :
    Calls Tryd.prog 15 #[v, .agg #[.int .i64 d.1, .int .i64 d.2]] w fun e w' => ∃ v', e = .returned v' ∧ w'.ownsRow w.heap.size 25 2 v' (putS l d).length (cellsOf (putS l d)) ∧ Below w.heap.size w w' := by
  rcases hv with ⟨rfl, ao, cap, rfl⟩ | ⟨b, off, cap, rfl, hlc, hcm, hd⟩
  · exact Tryd.rPut_none ao cap d w
  · exact Tryd.rPut_some b off cap (below l d) l d (ins d l) (mid l d) w hl hlc hcm hd (below_le l d) (fun k p hk hp => below_lo hk hp) (fun p hp => below_at hp) (mid_zero l d) (fun k p hk hp => mid_step hk hp) (fun p hp => mid_at hp) (fun k hk => mid_len l d hk) (fun h => mid_some h) (mid_end l d)
set_option maxRecDepth 100000 in
set_option maxHeartbeats 4000000 in
theorem Tryd.rAll_any (v : Value) (ll : List (List Mk)) (w : World) (hl : ll.length ≤ 2000000) (hls : ∀ l ∈ ll, l.length ≤ 2000000) (hv : HasLists w v ll) :
    Calls Tryd.prog 11 #[v] w fun e w' => ∃ v', e = .returned v' ∧ w'.ownsRow w.heap.size 25 2 v' (allS ll.flatten).length (cellsOf (allS ll.flatten)) ∧ Below w.heap.size w w' := by
  have HP : Hid (∀ v m d W, w.heap.size ≤ W.heap.size → W.ownsRow w.heap.size 25 2 v (allS m).length (cellsOf (allS m)) → Calls Tryd.prog 15 #[v, .agg #[.int .i64 d.1, .int .i64 d.2]] W fun e w' => ∃ v', e = .returned v' ∧ w'.ownsRow w.heap.size 25 2 v' (allS (m ++ [d])).length (cellsOf (allS (m ++ [d]))) ∧ Below w.heap.size W w') := fun v m d W h0 h1 => by
    rw [allS_snoc]
    refine (Tryd.rPut_any v (allS m) d W (by have := len_allS m; omega) (has_of_owns h1)).mono ?_
    rintro e w' ⟨v', he, ho, hb⟩
    exact ⟨v', he, ownsRow_base ho h0, hb.mono h0⟩
  have HLs := Lib.hid hls
  have O := owns_empty2 w 25 w.heap.size (Nat.le_refl _)
  have hb0 := (Below.refl _ w).alloc (Nat.le_refl _) (.cells #[] 25)
  clear hls
  rcases hv with ⟨rfl, ao, cap, rfl⟩ | ⟨b, off, cap, rfl, hlc, hcm, hd⟩
  · clear hl HLs HP
    go_enter Tryd.func11, Tryd.ntmps11
    go_wp2
    go_loopw [3, 4] (fun v' i wr => i = .int .i64 0 ∧ wr.ownsRow w.heap.size 25 2 v' 0 [] ∧ Below w.heap.size w wr) (fun _ _ _ => 0)
    case atStart => exact ⟨rfl, O, hb0⟩
    case round =>
      obtain ⟨rfl, hown, hB⟩ := hrel
      have HO := Lib.hid hown
      clear hown O hb0
      go_wp2
      go_ret
      exact ⟨_, rfl, HO.out, hB⟩
  · have HD := Lib.hid hd
    have hbl := hd.1
    unfold maxLen at hcm
    clear hd
    go_enter Tryd.func11, Tryd.ntmps11
    go_wp2
    go_loopw [3, 4] (fun v' i wr => ∃ k : Nat, k ≤ ll.length ∧ i = .int .i64 (k : Int) ∧ wr.ownsRow w.heap.size 25 2 v' (allS (ll.take k).flatten).length (cellsOf (allS (ll.take k).flatten)) ∧ Below w.heap.size w wr) (fun _ i _ => ll.length - (intOf i).toNat)
    case atStart => exact ⟨0, Nat.zero_le _, rfl, O, hb0⟩
    case round =>
      obtain ⟨k, hk, rfl, hown, hB⟩ := hrel
      have hB1 : w.heap.size ≤ wr.heap.size := hB.size
      have HO := Lib.hid hown
      clear hown O hb0
      by_cases hlt : k < ll.length
      · obtain ⟨l, hp⟩ : ∃ l, ll[k]? = some l := ⟨_, List.getElem?_eq_getElem hlt⟩
        obtain ⟨u, x0, hu⟩ := HD.out.2 k l hp
        have X0 := Lib.hid x0
        have hll := HLs.out l (List.mem_of_getElem? hp)
        have HT := Lib.hid (flat_take hp)
        clear hp x0
        rcases hu with ⟨rfl, ao, cap', rfl⟩ | ⟨b', off', cap', rfl, hlc', hcm', hd'⟩
        · clear hll
          rw [List.append_nil] at HT
          go_wp2
          go_loopw [3, 5] (fun v' j w2 => j = .int .i64 0 ∧ w2.ownsRow w.heap.size 25 2 v' (allS (ll.take k).flatten).length (cellsOf (allS (ll.take k).flatten)) ∧ Below w.heap.size w w2) (fun _ _ _ => 0)
          case atStart => exact ⟨rfl, HO.out, hB⟩
          case round =>
            obtain ⟨rfl, hown2, hB2⟩ := hrel
            have HO2 := Lib.hid hown2
            have x0 := (hB2.cell (p := ⟨b, off + k, none⟩) hbl).trans X0.out
            have hbr : b < wr.heap.size := Nat.lt_of_lt_of_le hbl hB2.size
            clear hown2 HO
            go_wp2
            go_roundw
            case rel => exact ⟨k + 1, by omega, by go_num, by rw [HT.out]; exact HO2.out, hB2⟩
            case measure => simp [intOf]; omega
        · have HD2 := Lib.hid hd'
          have hbl2 := hd'.1
          unfold maxLen at hcm'
          clear hd'
          go_wp2
          go_loopw [3, 5] (fun v' j w2 => ∃ q : Nat, q ≤ l.length ∧ j = .int .i64 (q : Int) ∧ w2.ownsRow w.heap.size 25 2 v' (allS ((ll.take k).flatten ++ l.take q)).length (cellsOf (allS ((ll.take k).flatten ++ l.take q))) ∧ Below w.heap.size w w2) (fun _ j _ => l.length - (intOf j).toNat)
          case atStart => exact ⟨0, Nat.zero_le _, rfl, by rw [List.take_zero, List.append_nil]; exact HO.out, hB⟩
          case round =>
            obtain ⟨q, hq, rfl, hown2, hB2⟩ := hrel
            have HO2 := Lib.hid hown2
            have x0 := (hB2.cell (p := ⟨b, off + k, none⟩) hbl).trans X0.out
            have hbr : b < wr.heap.size := Nat.lt_of_lt_of_le hbl hB2.size
            clear hown2 HO
            have hs2 : w.heap.size ≤ wr.heap.size := hB2.size
            by_cases hlt2 : q < l.length
            · obtain ⟨p, hp⟩ : ∃ p, l[q]? = some p := ⟨_, List.getElem?_eq_getElem hlt2⟩
              obtain ⟨y0, y1⟩ := HD2.out.read hp
              replace y0 := (hB2.cell (p := ⟨b', off' + q * 2, none⟩) hbl2).trans y0
              replace y1 := (hB2.cell (p := ⟨b', off' + q * 2 + 1, none⟩) hbl2).trans y1
              have hbr2 : b' < wr.heap.size := Nat.lt_of_lt_of_le hbl2 hs2
              have HT2 := Lib.hid (take_get hp)
              clear hp
              go_wp2_with (go_at_call 15; (with_reducible refine Calls.mono (HP.out _ ((ll.take k).flatten ++ l.take q) p _ hs2 HO2.out) ?_); rintro e w4 ⟨v4, rfl, ho4, hb4⟩; have HO4 := Lib.hid ho4; clear ho4)
              go_roundw
              case rel => exact ⟨q + 1, by omega, by go_num, by rw [HT2.out, ← List.append_assoc]; exact HO4.out, hB2.trans hb4⟩
              case measure => simp [intOf]; omega
            · obtain rfl : q = l.length := by omega
              have HO3 : Hid (wr.ownsRow w.heap.size 25 2 u3 (allS (ll.take (k + 1)).flatten).length (cellsOf (allS (ll.take (k + 1)).flatten))) := by
                have := HO2.out
                rw [List.take_length, ← HT.out] at this
                exact this
              clear HO2
              go_wp2
              go_roundw
              case rel => exact ⟨k + 1, by omega, by go_num, HO3.out, hB2⟩
              case measure => simp [intOf]; omega
      · obtain rfl : k = ll.length := by omega
        rw [List.take_length] at HO
        go_wp2
        go_ret
        exact ⟨_, rfl, HO.out, hB⟩
#print axioms Tryd.rPut_any
#print axioms Tryd.rAll_any
end Go.Proofs
