/- The law HeadTold. Conditions: HeadC; the variables' words T. -/
import Derived.Test.YtmmmgljekoebpaaDoorG07
import Derived.Test.YtmmmgljekoebpaaDoorG12
namespace Go.Hdr
open Go.Wds Go.Proofs Go.Cur Go.Fx Go.Metric Go.Layout
/-- Whether a place is the end, or the beginning of one of the first rows. -/
def begB (l : List (Nat × Nat × Nat)) (n x k : Nat) : Bool := decide (x = n) || (l.take k).any fun r => decide (r.1 = x)
theorem begB_succ {l : List (Nat × Nat × Nat)} {n x k : Nat} {r : Nat × Nat × Nat} (h : l[k]? = some r) : begB l n x (k + 1) = (begB l n x k || decide (r.1 = x)) := by
  unfold begB
  rw [Go.Wds.take_get h, List.any_append, Bool.or_assoc]
  simp
theorem begB_all {l : List (Nat × Nat × Nat)} {n x : Nat} (h : x = n ∨ ∃ r ∈ l, r.1 = x) : begB l n x l.length = true := by
  unfold begB
  rw [List.take_length, Bool.or_eq_true]
  rcases h with h | ⟨r, hr, h⟩
  · exact .inl (decide_eq_true h)
  · exact .inr (List.any_eq_true.2 ⟨r, hr, decide_eq_true h⟩)
end Go.Hdr
namespace Go.Proofs
open Go.RowKit Go.Shelf Go.Hdr Go.Fx Go.Wds Go.Metric Go.Layout Go.Cur
attribute [local go_sem] Oper.semAt_some
set_option maxRecDepth 100000 in
set_option maxHeartbeats 16000000 in
theorem Tryd.HeadTold_calls {T : World → Prop} (H : Tryd.HeadC T) (s : ByteArray) (w : World) (hT0 : T w) : Calls Tryd.prog 8 #[.string s] w fun e w' => e = .returned (.bool true) ∧ Below w.heap.size w w' := by
  have HT : Hid (∀ W, Below w.heap.size w W → T W) := fun W hW => H.keep w W hT0 hW
  have HSH := Lib.hid fun W h => Tryd.shown14_calls H W h
  have HB0 := Lib.hid (Below.refl w.heap.size w)
  by_cases h1 : s.size ≤ 1000
  · have n1 : ¬ (1000 : Int) < (s.size : Int) := by omega
    have HPA := Lib.hid fun W h => H.parse s W (by omega) h
    have HLC := Lib.hid fun W => Tryd.Rows_calls s W (by omega)
    have HLN : Hid ((rowsOf s.data.toList).length ≤ 1001) := Nat.le_trans (List.length_filter_le _ _) (Nat.le_trans (lines_len s) (by omega))
    obtain ⟨hE, hO⟩ := parse_told s
    generalize parseE s = R at *
    obtain ⟨⟨nm, k, d, c, m, l⟩, at1, at2, cd⟩ := R
    simp only at hE hO
    simp only [hdV] at HPA
    have hsz : (s.size : Int) ≤ 1000 := by omega
    clear H hT0 h1
    by_cases hc : cd = 0
    · subst hc
      obtain ⟨rfl, hbeg, hd1, hd2, hk, hm1, hm2⟩ := hO rfl
      clear hE hO
      have HBA := Lib.hid (begB_all hbeg)
      have HBS := Lib.hid fun k r (h : (rowsOf s.data.toList)[k]? = some r) => begB_succ (n := s.size) (x := at1) h
      have hb0 : ((at1 : Int) == (s.size : Int)) = begB (rowsOf s.data.toList) s.size at1 0 := by
        unfold begB
        rw [List.take_zero, List.any_nil, Bool.or_false, Bool.eq_iff_iff, beq_iff_eq, decide_eq_true_iff]
        exact ⟨fun h => by omega, fun h => by omega⟩
      clear hbeg
      go_enter Tryd.func8, Tryd.ntmps8
      go_wp2_with (first
        | (go_at_call 9; (with_reducible refine (HSH.out _ (HT.out _ HB0.out)).mono ?_); rintro e w1 ⟨rfl, hb1⟩; have HB1 := Lib.hid (hstep HB0.out hb1); clear hb1)
        | (go_at_call 14; (with_reducible refine (HPA.out _ (HT.out _ HB1.out)).mono ?_); rintro e w2 ⟨rfl, hb2⟩; go_loud (have HB2 := Lib.hid (hstep (hstep HB1.out hb2) (below_two_n w2 (.cells #[.string nm, .int .i64 k, .int .i64 d, .int .i64 c, .int .i64 m, .int .i64 l] 23) (.cells #[.int .i64 0, .int .i64 0] 32))); have HY2 := Lib.hid (hbox_one w2 (.cells #[.string nm, .int .i64 k, .int .i64 d, .int .i64 c, .int .i64 m, .int .i64 l] 23) (.cells #[.int .i64 0, .int .i64 0] 32)); have HZ2 := Lib.hid (hbox_two w2 (.cells #[.string nm, .int .i64 k, .int .i64 d, .int .i64 c, .int .i64 m, .int .i64 l] 23) (.cells #[.int .i64 0, .int .i64 0] 32)); clear hb2))
        | (go_at_call 16; (with_reducible refine (HLC.out _).mono ?_); rintro e w3 ⟨lv, rfl, hl3, hb3⟩; go_loud (have HB3 := Lib.hid (hstep HB2.out hb3); have HY3 := Lib.hid (hbox_next HY2.out hb3); have HZ3 := Lib.hid (hbox_next HZ2.out hb3); have HL3 := Lib.hid hl3; obtain ⟨al, cl, rfl⟩ := howns_slice hl3; clear hb3 hl3)))
      generalize hL : (rowsOf s.data.toList).length = L at *
      have HLL := Lib.hid hL
      have hl1 := HLN.out
      clear hL
      go_loopw [6, 8] (fun b i wr => ∃ j : Nat, j ≤ L ∧ i = .int .i64 (j : Int) ∧ b = .bool (begB (rowsOf s.data.toList) s.size at1 j) ∧ wr = w3) (fun _ i _ => L - (intOf i).toNat)
      case atStart => exact ⟨0, Nat.zero_le _, rfl, rfl, rfl⟩
      case round =>
        obtain ⟨j, hj, rfl, rfl, rfl⟩ := hrel
        by_cases hlt : j < L
        · obtain ⟨⟨a, b, d'⟩, hp⟩ : ∃ p, (rowsOf s.data.toList)[j]? = some p := ⟨_, List.getElem?_eq_getElem (by rw [HLL.out]; exact hlt)⟩
          have hln := HL3.out
          obtain ⟨g, rfl⟩ : ∃ g, al = some ⟨g, 0, none⟩ := by
            rcases hln.2 with ⟨h0, h1⟩ | ⟨g, cap, cur, h0, _⟩
            · omega
            · cases h0; exact ⟨g, rfl⟩
          obtain ⟨x0, x1⟩ := hline_cells (by rw [HLL.out]; exact hln) hp
          have HS := Lib.hid (HBS.out j _ hp)
          have hji : (j : Int) < (L : Int) := by omega
          simp only at HS
          have hcmp : ((a : Int) == (at1 : Int)) = decide (a = at1) := by
            rw [Bool.eq_iff_iff, beq_iff_eq, decide_eq_true_iff]
            exact ⟨fun h => by omega, fun h => by omega⟩
          clear hp hln hb0
          generalize begB (rowsOf s.data.toList) s.size at1 j = bj at *
          generalize decide (a = at1) = bd at *
          cases bj with
          | true =>
            go_wp2
            go_roundw
            case rel => exact ⟨j + 1, by omega, by go_num, by rw [HS.out]; rfl, trivial⟩
            case measure => simp [intOf]; omega
          | false =>
            go_wp2
            go_roundw
            case rel => exact ⟨j + 1, by omega, by go_num, by rw [HS.out]; rfl, trivial⟩
            case measure => simp [intOf]; omega
        · obtain rfl : j = L := by omega
          have HA := HBA.out
          rw [HA]
          have aB := HY3.out; have eB := HZ3.out
          have a0 : wr.cell? ⟨w2.heap.size, 0, none⟩ = some (.string nm) := (hbox_cell aB 0).1; have a1 : wr.cell? ⟨w2.heap.size, 1, none⟩ = some (.int .i64 k) := (hbox_cell aB 1).1; have a2 : wr.cell? ⟨w2.heap.size, 2, none⟩ = some (.int .i64 d) := (hbox_cell aB 2).1; have a3 : wr.cell? ⟨w2.heap.size, 3, none⟩ = some (.int .i64 c) := (hbox_cell aB 3).1; have a4 : wr.cell? ⟨w2.heap.size, 4, none⟩ = some (.int .i64 m) := (hbox_cell aB 4).1; have a5 : wr.cell? ⟨w2.heap.size, 5, none⟩ = some (.int .i64 l) := (hbox_cell aB 5).1; have e0 : wr.cell? ⟨w2.heap.size + 1, 0, none⟩ = some (.int .i64 0) := (hbox_cell eB 0).1; have e1 : wr.cell? ⟨w2.heap.size + 1, 1, none⟩ = some (.int .i64 0) := (hbox_cell eB 1).1
          clear aB eB HA hlt hj hb0
          rcases hk with rfl | rfl
          all_goals
            go_wp2
            go_ret
            exact ⟨rfl, HB3.out⟩
    · obtain ⟨hh, rfl, ha, hcd⟩ := hE hc
      have d9 : (cd != 0) = true := bne_iff_ne.2 hc
      unfold hd0 at hh
      cases hh
      have ha' : (at2 : Int) ≤ (s.size : Int) := by omega
      have ha0 : (0 : Int) ≤ (at2 : Int) := by omega
      have hcd' : cd = 3 ∨ cd = 140 ∨ cd = 141 ∨ cd = 142 := by
        rcases hcd with (h | h | h) | h
        · exact .inl h
        · exact .inr (.inl h)
        · exact .inr (.inr (.inl h))
        · exact .inr (.inr (.inr h))
      clear hE hO hc hcd ha
      rcases hcd' with rfl | rfl | rfl | rfl
      all_goals
        go_enter Tryd.func8, Tryd.ntmps8
        go_wp2_with (first
          | (go_at_call 9; (with_reducible refine (HSH.out _ (HT.out _ HB0.out)).mono ?_); rintro e w1 ⟨rfl, hb1⟩; have HB1 := Lib.hid (hstep HB0.out hb1); clear hb1)
          | (go_at_call 14; (with_reducible refine (HPA.out _ (HT.out _ HB1.out)).mono ?_); rintro e w2 ⟨rfl, hb2⟩; have HB2 := Lib.hid (hstep HB1.out hb2); clear hb2))
        go_ret
        exact ⟨rfl, hstep HB2.out (below_two_n _ _ _)⟩
  · have n1 : (1000 : Int) < (s.size : Int) := by omega
    clear H hT0 h1
    go_enter Tryd.func8, Tryd.ntmps8
    go_wp2_with (go_at_call 9; (with_reducible refine (HSH.out _ (HT.out _ HB0.out)).mono ?_); rintro e w1 ⟨rfl, hb1⟩)
    go_ret
    exact ⟨rfl, hb1⟩
end Go.Proofs
