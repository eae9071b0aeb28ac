/- The law HeadTurned. Conditions: HeadC; the variables' words T. -/
import Derived.Test.YtmmmgljekoebpaaDoorLawHeadLacksM
namespace Go.Hdr
open Go.Wds Go.Proofs Go.Cur Go.Fx Go.Metric Go.Layout
theorem turn_len {h : Hd} (hm : MayF h) {L : List Nat} (hL : ∀ i ∈ L, i ≤ 5 ∧ hasI h i = true) (by_ at_ : Nat) {r : List UInt8} (hr : r.length ≤ 100) : ∀ i, i ≤ L.length → (turnT h L by_ at_ r i).length ≤ i * 180
  | 0, _ => Nat.zero_le _
  | i + 1, hi => by
    have ih := turn_len hm hL by_ at_ hr i (by omega)
    have hlt : (i + by_) % L.length < L.length := Nat.mod_lt _ (by omega)
    have hx : L.getD ((i + by_) % L.length) 0 ∈ L := by rw [List.getD_eq_getElem?_getD, List.getElem?_eq_getElem hlt]; exact List.getElem_mem hlt
    have h1 := lnI_len (g := [32]) hm (hL _ hx).1 (hL _ hx).2
    have h2 : (if i = at_ then remL r else []).length ≤ 113 := by
      split
      · unfold remL hkCom
        simp
        omega
      · exact Nat.zero_le _
    unfold turnT
    simp only [List.length_append, List.length_cons, List.length_nil] at h1 ⊢
    omega
theorem turn_rem (T : List UInt8) (r : ByteArray) : bs T ++ ⟨#[67, 79, 77, 77, 69, 78, 84, 32, 58, 32]⟩ ++ r ++ ⟨#[10, 9, 10]⟩ = bs (T ++ remL r.data.toList) := by
  apply bytes_ext
  rw [app_list, app_list, app_list, bs_list, bs_list]
  unfold remL hkCom
  simp
theorem turn_line (T : List UInt8) (h : Hd) (x : Nat) : bs T ++ ⟨#[32]⟩ ++ bs (lnI [] h x ++ [10]) = bs (T ++ (lnI [32] h x ++ [10])) := by
  apply bytes_ext
  rw [app_list, app_list, bs_list, bs_list, bs_list]
  unfold lnI
  simp
end Go.Hdr
namespace Go.Proofs
open Go.RowKit Go.Shelf Go.Hdr Go.Fx Go.Wds Go.Metric Go.Layout Go.Cur
attribute [local go_sem] Oper.semAt_some
/-- What stands in the loop over the lines. -/
structure HuS (w : World) (cs : Array Value) (B n : Nat) (lv : Value) (LL : List (Nat × Nat × Nat)) (W : World) : Prop where
  below : Below w.heap.size w W
  box : W.heap[w.heap.size]? = some (.cells cs 23)
  lines : W.ownsRow B 39 3 lv n (lineCells LL)
theorem HuS.next {w W W' : World} {cs : Array Value} {B n : Nat} {lv : Value} {LL : List (Nat × Nat × Nat)} (h : HuS w cs B n lv LL W) (hb : Below W.heap.size W W') : HuS w cs B n lv LL W' := ⟨hstep h.below hb, hbox_next h.box hb, ownsRow_below h.lines hb (Nat.le_refl _)⟩
set_option maxRecDepth 100000 in
set_option maxHeartbeats 32000000 in
theorem Tryd.HeadTurned_calls {T : World → Prop} (H : Tryd.HeadC T) (h : Hd) (b a : Nat) (r : ByteArray) (w : World) (hT0 : T w) (hnm : h.name.size ≤ 9223372036854775807) (hb : b ≤ 255) (ha : a ≤ 255) : Calls Tryd.prog 5 #[hdV h, .int .u8 (b : Int), .int .u8 (a : Int), .string r] w fun e w' => e = .returned (.bool true) ∧ Below w.heap.size w w' := by
  have HT : Hid (∀ W, Below w.heap.size w W → T W) := fun W hW => H.keep w W hT0 hW
  have HSH := Lib.hid fun W h => Tryd.shown14_calls H W h
  have HMR := Lib.hid fun W => Tryd.rhmay_calls h W hnm
  cases hm : mayH h with
  | false =>
    rw [hm] at HMR
    obtain ⟨nm, k, d, c, m, l⟩ := h
    simp only [hdV] at HMR ⊢
    have HB0 := Lib.hid (below_one_h w (.cells #[.string nm, .int .i64 k, .int .i64 d, .int .i64 c, .int .i64 m, .int .i64 l] 23))
    clear H hT0 hm hnm
    go_enter Tryd.func5, Tryd.ntmps5
    go_wp2_with (first
      | (go_at_call 11; (with_reducible refine (HMR.out _).mono ?_); rintro e w1 ⟨rfl, hb1⟩; have HB1 := Lib.hid (hstep HB0.out hb1); clear hb1)
      | (go_at_call 9; (with_reducible refine (HSH.out _ (HT.out _ HB1.out)).mono ?_); rintro e w2 ⟨rfl, hb2⟩))
    go_ret
    exact ⟨rfl, hstep HB1.out hb2⟩
  | true =>
    rw [hm] at HMR
    by_cases hrs : r.size ≤ 100
    · have m1 : ¬ (100 : Int) < (r.size : Int) := by omega
      have hPl := print_len hm
      have HPR : Hid (∀ W, T W → Calls Tryd.prog 12 #[hdV h] W fun e w' => e = .returned (.string (printE h)) ∧ Below W.heap.size W w') := fun W hW => H.print h W (by have := (name_one (mayF hm).name).2; simp at this; omega) hW
      have HLC := Lib.hid fun W => Tryd.Lines_calls (printE h) W (by omega)
      obtain ⟨hll, hlg⟩ := lines_txt (mayF hm) (itemsL h) (fun i hi => items_mem.1 hi)
      rw [← printE_txt hm] at hll hlg
      obtain ⟨hn4, hn6⟩ := items_len h
      obtain ⟨n, hn⟩ : ∃ n, (itemsL h).length = n := ⟨_, rfl⟩
      obtain ⟨q, hq⟩ : ∃ q, a % n = q := ⟨_, rfl⟩
      have hrl : r.data.toList.length = r.size := by simp
      have HTL : Hid (∀ i, i ≤ n → (turnT h (itemsL h) b q r.data.toList i).length ≤ i * 180) := fun i hi => turn_len (mayF hm) (fun i hi => items_mem.1 hi) b q (by omega) i (by omega)
      have HPA : Hid ((∀ x ∈ r.data.toList, x ≠ 10) → ∀ W, T W → Calls Tryd.prog 14 #[.string (bs (turnT h (itemsL h) b q r.data.toList n))] W fun e w' => e = .returned (.tuple #[hdV h, .int .i64 ((bs (turnT h (itemsL h) b q r.data.toList n)).size : Int), .agg #[.int .i64 0, .int .i64 0]]) ∧ Below W.heap.size W w') := fun hr W hW => by
        have hp := parse_turn hm b q hr
        rw [hn] at hp
        have hl := HTL.out n (Nat.le_refl _)
        rw [hn] at hn6
        exact (H.parse _ W (by rw [bs_size]; omega) hW).mono fun e w' hh => ⟨hh.1.trans (by rw [hp, bs_size]; rfl), hh.2⟩
      -- a row of the lines, turned
      have HROW : Hid (∀ k, k < n → ∃ o0 o1 o2, (lines (printE h).data.toList)[(k + b) % n]? = some (o0, o1, o2) ∧ o0 ≤ o2 ∧ o2 ≤ (printE h).size ∧ ∀ T, bs T ++ ⟨#[32]⟩ ++ (printE h).extract o0 o2 = bs (T ++ (lnI [32] h ((itemsL h).getD ((k + b) % n) 0) ++ [10]))) := fun k hk => by
        have hlt : (k + b) % n < n := Nat.mod_lt _ (by omega)
        obtain ⟨x, hx⟩ : ∃ x, (itemsL h)[(k + b) % n]? = some x := ⟨_, List.getElem?_eq_getElem (by omega)⟩
        obtain ⟨o1, hlx⟩ := hlg _ x hx
        obtain ⟨hcs, hc1, _, _⟩ := cut_line hm hx
        refine ⟨_, o1, _, hlx, by omega, hcs, fun T => ?_⟩
        rw [hc1, turn_line, List.getD_eq_getElem?_getD, hx]
        rfl
      have HST : Hid (∀ i, turnT h (itemsL h) b q r.data.toList (i + 1) = turnT h (itemsL h) b q r.data.toList i ++ (if i = q then remL r.data.toList else []) ++ (lnI [32] h ((itemsL h).getD ((i + b) % n) 0) ++ [10])) := fun i => by rw [← hn]; rfl
      have HTR := Lib.hid fun T => turn_rem T r
      have HREM : Hid ((remL r.data.toList).length ≤ 113) := by
        unfold Hid remL hkCom
        simp
        omega
      rw [hn] at hll hn4 hn6
      clear hlg hn H hT0
      have e0 : turnT h (itemsL h) b q r.data.toList 0 = [] := rfl
      generalize turnT h (itemsL h) b q r.data.toList = TT at *
      generalize remL r.data.toList = RM at *
      generalize hG : (fun j => lnI [32] h ((itemsL h).getD j 0) ++ [10]) = G at *
      have HROW2 : Hid (∀ k, k < n → ∃ o0 o1 o2, (lines (printE h).data.toList)[(k + b) % n]? = some (o0, o1, o2) ∧ o0 ≤ o2 ∧ o2 ≤ (printE h).size ∧ ∀ T, bs T ++ ⟨#[32]⟩ ++ (printE h).extract o0 o2 = bs (T ++ G ((k + b) % n))) := by rw [← hG]; exact HROW
      have HST2 : Hid (∀ i, TT (i + 1) = TT i ++ (if i = q then RM else []) ++ G ((i + b) % n)) := by rw [← hG]; exact HST
      clear HROW HST hG hm hnm
      generalize printE h = P at *
      generalize lines P.data.toList = LL at *
      obtain ⟨nm, k, d, c, m, l⟩ := h
      simp only [hdV] at HMR HPR HPA ⊢
      have hPi : (P.size : Int) ≤ 384 := by omega
      have hni : (n : Int) ≤ 6 := by omega
      have hn0 : (0 : Int) < (n : Int) := by omega
      have hnz : ((n : Int) == 0) = false := beq_eq_false_iff_ne.2 (by omega)
      have hqi : (a : Int) % (n : Int) = (q : Int) := by omega
      have hqi2 : (a : Int).tmod (n : Int) = (q : Int) := by rw [Int.tmod_eq_emod_of_nonneg (by omega)]; exact hqi
      have HC0 := Lib.hid (below_one_h w (.cells #[.string nm, .int .i64 k, .int .i64 d, .int .i64 c, .int .i64 m, .int .i64 l] 23))
      have HX0 := Lib.hid (World.alloc_heap_new w (.cells #[.string nm, .int .i64 k, .int .i64 d, .int .i64 c, .int .i64 m, .int .i64 l] 23))
      have HLL := Lib.hid hll
      clear hll
      go_enter Tryd.func5, Tryd.ntmps5
      go_wp2_with (first
        | (go_at_call 11; (with_reducible refine (HMR.out _).mono ?_); rintro e w1 ⟨rfl, hb1⟩; have HC1 := Lib.hid (hstep HC0.out hb1); have HX1 := Lib.hid (hbox_next HX0.out hb1); clear hb1)
        | (go_at_call 9; (with_reducible refine (HSH.out _ (HT.out _ HC1.out)).mono ?_); rintro e w2 ⟨rfl, hb2⟩; have HC2 := Lib.hid (hstep HC1.out hb2); have HX2 := Lib.hid (hbox_next HX1.out hb2); clear hb2))
      go_loopw [9] (fun i wr => ∃ j : Nat, j ≤ r.size ∧ i = .int .i64 (j : Int) ∧ Hid (∀ x ∈ r.data.toList.take j, x ≠ 10) ∧ wr = w2) (fun i _ => r.size - (intOf i).toNat)
      case atStart => exact ⟨0, Nat.zero_le _, rfl, Lib.hid (fun x hx => by simp at hx), rfl⟩
      case round =>
        obtain ⟨j, hj, rfl, hNO, rfl⟩ := hrel
        by_cases hjt : j < r.size
        · have hji : (j : Int) < (r.size : Int) := by omega
          have hget := Go.Cur.list_get r j hjt
          by_cases hx : r[j]'hjt = 10
          · have hx' : (((r[j]'hjt).toNat : Int) == 10) = true := by rw [hx]; rfl
            clear hget
            go_wp2
            go_ret
            exact ⟨rfl, HC2.out⟩
          · have hx' : (((r[j]'hjt).toNat : Int) == 10) = false := by
              rw [beq_eq_false_iff_ne]
              intro e
              exact hx (UInt8.toNat_inj.1 (show (r[j]'hjt).toNat = (10 : UInt8).toNat by have : (10 : UInt8).toNat = 10 := rfl; omega))
            have HN2 : Hid (∀ x ∈ r.data.toList.take (j + 1), x ≠ 10) := fun x hx2 => by
              rw [Go.Wds.take_get hget, List.mem_append] at hx2
              rcases hx2 with hx2 | hx2
              · exact hNO.out x hx2
              · obtain rfl : x = r[j]'hjt := by simpa using hx2
                exact hx
            clear hget hx
            go_wp2
            go_roundw
            case rel => exact ⟨j + 1, by omega, by go_num, HN2, trivial⟩
            case measure => simp [intOf]; omega
        · obtain rfl : j = r.size := by omega
          have HNO : Hid (∀ x ∈ r.data.toList, x ≠ 10) := by
            have := hNO.out
            rw [← hrl, List.take_length] at this
            exact this
          have HPB := Lib.hid (HPA.out HNO.out)
          have HX2' := HX2.out
          have aB := HX2.out
          have a0 : wr.cell? ⟨w.heap.size, 0, none⟩ = some (.string nm) := (hbox_cell aB 0).1; have a1 : wr.cell? ⟨w.heap.size, 1, none⟩ = some (.int .i64 k) := (hbox_cell aB 1).1; have a2 : wr.cell? ⟨w.heap.size, 2, none⟩ = some (.int .i64 d) := (hbox_cell aB 2).1; have a3 : wr.cell? ⟨w.heap.size, 3, none⟩ = some (.int .i64 c) := (hbox_cell aB 3).1; have a4 : wr.cell? ⟨w.heap.size, 4, none⟩ = some (.int .i64 m) := (hbox_cell aB 4).1; have a5 : wr.cell? ⟨w.heap.size, 5, none⟩ = some (.int .i64 l) := (hbox_cell aB 5).1
          clear hj hjt hNO HPA aB HX2'
          go_wp2_with (first
            | (go_at_call 12; (with_reducible refine (HPR.out _ (HT.out _ HC2.out)).mono ?_); rintro e w3 ⟨rfl, hb3⟩; have HC3 := Lib.hid (hstep HC2.out hb3); have HX3 := Lib.hid (hbox_next HX2.out hb3); clear hb3 a0 a1 a2 a3 a4 a5)
            | (go_at_call 15; (with_reducible refine (HLC.out _).mono ?_); rintro e w4 ⟨lv, rfl, hl4, hb4⟩; go_loud (rw [HLL.out] at hl4; have HS0 : Hid (HuS w #[.string nm, .int .i64 k, .int .i64 d, .int .i64 c, .int .i64 m, .int .i64 l] w3.heap.size n lv LL w4) := ⟨hstep HC3.out hb4, hbox_next HX3.out hb4, hl4⟩; obtain ⟨g, cl, rfl, hg⟩ := rows_at hl4 (by omega); clear hl4 hb4)))
          go_loopw [12, 13] (fun t i wr => ∃ j : Nat, j ≤ n ∧ t = .string (bs (TT j)) ∧ i = .int .i64 (j : Int) ∧ Hid (HuS w #[.string nm, .int .i64 k, .int .i64 d, .int .i64 c, .int .i64 m, .int .i64 l] w3.heap.size n (.slice (some ⟨g, 0, none⟩) n cl) LL wr)) (fun _ i _ => n - (intOf i).toNat)
          case atStart => exact ⟨0, Nat.zero_le _, by rw [e0]; rfl, rfl, HS0⟩
          case round =>
            clear hg HS0 HX2 HX3 HC2 HC3 HX1 HC1 HX0 HC0 HMR HPR HLC HSH
            obtain ⟨j, hj, rfl, rfl, HSS⟩ := hrel
            by_cases hjt : j < n
            · have hji : (j : Int) < (n : Int) := by omega
              obtain ⟨o0, o1, o2, hlx, ho02, ho2, hcat⟩ := HROW2.out j hjt
              have hst := HST2.out j
              obtain ⟨p, hp⟩ : ∃ p, (j + b) % n = p := ⟨_, rfl⟩
              rw [hp] at hlx hcat hst
              have hpn : p < n := hp ▸ Nat.mod_lt _ (by omega)
              have hpi : ((j : Int) + (b : Int)) % (n : Int) = (p : Int) := by rw [← Int.natCast_add, ← Int.natCast_emod, hp]
              have hpi2 : ((j : Int) + (b : Int)).tmod (n : Int) = (p : Int) := by rw [Int.tmod_eq_emod_of_nonneg (by omega)]; exact hpi
              have hpl : (p : Int) < (n : Int) := by omega
              obtain ⟨x0, x1, x2⟩ := hline_cells3 (L := LL) (by rw [HLL.out]; exact HSS.out.lines) hlx
              have hl := HTL.out j hj
              have hTs : (bs (TT j)).size ≤ 1080 := by rw [bs_size]; omega
              have hsl : ∀ W, (Instr.slice 9 (.string P) (some (.int .i64 (o0 : Int))) (some (.int .i64 (o2 : Int))) none).run Tryd.prog W = .ok (.string (P.extract o0 o2)) W := fun W => by
                rw [run_slice_string W 9 _ .i64 .i64 (o0 : Int) (o2 : Int) Tryd.underlying9 (by omega) (by omega) (by omega), Int.toNat_natCast, Int.toNat_natCast]
              have hsa : (P.extract o0 o2).size ≤ 384 := by rw [ByteArray.size_extract]; omega
              have HS1 : Hid (HuS w #[.string nm, .int .i64 k, .int .i64 d, .int .i64 c, .int .i64 m, .int .i64 l] w3.heap.size n (.slice (some ⟨g, 0, none⟩) n cl) LL (wr.alloc (.cells #[.int .i64 (o0 : Nat), .int .i64 (o1 : Nat), .int .i64 (o2 : Nat)] 39))) := HSS.out.next (below_one_h wr (.cells #[.int .i64 (o0 : Nat), .int .i64 (o1 : Nat), .int .i64 (o2 : Nat)] 39))
              have yB := World.alloc_heap_new wr (.cells #[.int .i64 (o0 : Nat), .int .i64 (o1 : Nat), .int .i64 (o2 : Nat)] 39)
              have y0 : (wr.alloc (.cells #[.int .i64 (o0 : Nat), .int .i64 (o1 : Nat), .int .i64 (o2 : Nat)] 39)).cell? ⟨wr.heap.size, 0, none⟩ = some (.int .i64 (o0 : Nat)) := (hbox_cell yB 0).1
              have y2 : (wr.alloc (.cells #[.int .i64 (o0 : Nat), .int .i64 (o1 : Nat), .int .i64 (o2 : Nat)] 39)).cell? ⟨wr.heap.size, 2, none⟩ = some (.int .i64 (o2 : Nat)) := (hbox_cell yB 2).1
              have HCAT := Lib.hid hcat
              have HST3 := Lib.hid hst
              clear hlx yB hcat hst hl
              have HTT : Hid (∀ T, TT j = T → True) := fun _ _ => trivial
              obtain ⟨Tj, hTj⟩ : ∃ T, TT j = T := ⟨_, rfl⟩
              have HTJ := Lib.hid hTj
              rw [hTj] at hTs ⊢
              clear hTj HTT
              have z1 : ¬ 9223372036854775807 < (bs Tj).size + 10 := by omega
              have z2 : ¬ 9223372036854775807 < (bs Tj).size + 10 + r.size := by omega
              have z3 : ¬ 9223372036854775807 < (bs Tj).size + 10 + r.size + 3 := by omega
              by_cases hjq : j = q
              · have hjq' : ((j : Int) == (q : Int)) = true := by rw [hjq]; simp
                have HJQ := Lib.hid hjq
                clear hjq
                go_upto_region 17 with (fail)
                rw [HTR.out]
                have hTJ2 : TT (j + 1) = Tj ++ RM ++ G p := by rw [HST3.out, HTJ.out, if_pos HJQ.out]
                have hU : (bs (Tj ++ RM)).size ≤ 1200 := by have := HREM.out; rw [bs_size] at hTs ⊢; rw [List.length_append]; omega
                clear z1 z2 z3 hTs
                obtain ⟨U, hU2⟩ : ∃ U, Tj ++ RM = U := ⟨_, rfl⟩
                rw [hU2] at hTJ2 hU ⊢
                have HTU := Lib.hid hTJ2
                clear hTJ2 hU2 HTR HREM
                have z4 : ¬ 9223372036854775807 < (bs U).size + 1 := by omega
                have z5 : ¬ 9223372036854775807 < (bs U).size + 1 + (P.extract o0 o2).size := by omega
                go_wp2
                go_roundw
                case rel => exact ⟨j + 1, by omega, by rw [HTU.out, ← HCAT.out], by go_num, HS1⟩
                case measure => simp [intOf]; omega
              · have hjq' : ((j : Int) == (q : Int)) = false := by rw [beq_eq_false_iff_ne]; omega
                have HJQ := Lib.hid hjq
                clear hjq
                go_upto_region 17 with (fail)
                have HTU : Hid (TT (j + 1) = Tj ++ G p) := by
                  have := HST3.out
                  rw [HTJ.out, if_neg HJQ.out, List.append_nil] at this
                  exact this
                clear z1 z2 z3 HTR HREM
                have z4 : ¬ 9223372036854775807 < (bs Tj).size + 1 := by omega
                have z5 : ¬ 9223372036854775807 < (bs Tj).size + 1 + (P.extract o0 o2).size := by omega
                go_wp2
                go_roundw
                case rel => exact ⟨j + 1, by omega, by rw [HTU.out, ← HCAT.out], by go_num, HS1⟩
                case measure => simp [intOf]; omega
            · obtain rfl : j = n := by omega
              go_wp2_with (go_at_call 14; (with_reducible refine (HPB.out _ (HT.out _ HSS.out.below)).mono ?_); rintro e w6 ⟨rfl, hb6⟩; go_loud (have HS6 := Lib.hid (HSS.out.next hb6); have aB := HS6.out.box; have hw6 : w.heap.size < w6.heap.size := (Array.getElem?_eq_some_iff.1 aB).1; have a0 : w6.cell? ⟨w.heap.size, 0, none⟩ = some (.string nm) := (hbox_cell aB 0).1; have a1 : w6.cell? ⟨w.heap.size, 1, none⟩ = some (.int .i64 k) := (hbox_cell aB 1).1; have a2 : w6.cell? ⟨w.heap.size, 2, none⟩ = some (.int .i64 d) := (hbox_cell aB 2).1; have a3 : w6.cell? ⟨w.heap.size, 3, none⟩ = some (.int .i64 c) := (hbox_cell aB 3).1; have a4 : w6.cell? ⟨w.heap.size, 4, none⟩ = some (.int .i64 m) := (hbox_cell aB 4).1; have a5 : w6.cell? ⟨w.heap.size, 5, none⟩ = some (.int .i64 l) := (hbox_cell aB 5).1; clear hb6 aB))
              go_ret
              exact ⟨rfl, hstep HS6.out.below (below_two_n _ _ _)⟩
    · have n1 : (100 : Int) < (r.size : Int) := by omega
      obtain ⟨nm, k, d, c, m, l⟩ := h
      simp only [hdV] at HMR ⊢
      have HB0 := Lib.hid (below_one_h w (.cells #[.string nm, .int .i64 k, .int .i64 d, .int .i64 c, .int .i64 m, .int .i64 l] 23))
      clear H hT0 hm hnm hrs
      go_enter Tryd.func5, Tryd.ntmps5
      go_wp2_with (first
        | (go_at_call 11; (with_reducible refine (HMR.out _).mono ?_); rintro e w1 ⟨rfl, hb1⟩; have HB1 := Lib.hid (hstep HB0.out hb1); clear hb1)
        | (go_at_call 9; (with_reducible refine (HSH.out _ (HT.out _ HB1.out)).mono ?_); rintro e w2 ⟨rfl, hb2⟩))
      go_ret
      exact ⟨rfl, hstep HB1.out hb2⟩
end Go.Proofs
