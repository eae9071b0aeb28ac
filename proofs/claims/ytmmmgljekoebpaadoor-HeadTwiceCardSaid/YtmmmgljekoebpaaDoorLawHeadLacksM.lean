/- The law HeadLacks. Conditions: HeadC; the variables' words T. -/
import Derived.Test.YtmmmgljekoebpaaDoorG07
import Derived.Test.YtmmmgljekoebpaaDoorG12
namespace Go.Proofs
open Go.RowKit Go.Shelf Go.Hdr Go.Fx Go.Wds Go.Metric Go.Layout Go.Cur
attribute [local go_sem] Oper.semAt_some
theorem hline_cells3 {W : World} {base g n c : Nat} {e : TypeId} {L : List (Nat × Nat × Nat)} (h : W.ownsRow base e 3 (.slice (some ⟨g, 0, none⟩) n c) L.length (lineCells L)) {k a b d : Nat} (hk : L[k]? = some (a, b, d)) :
    W.cell? ⟨g, k * 3, none⟩ = some (.int .i64 (a : Nat)) ∧ W.cell? ⟨g, k * 3 + 1, none⟩ = some (.int .i64 (b : Nat)) ∧ W.cell? ⟨g, k * 3 + 2, none⟩ = some (.int .i64 (d : Nat)) := by
  have hc := World.ownsRow.cells h (g := g) rfl
  have hg : ∀ (L : List (Nat × Nat × Nat)) (k : Nat), L[k]? = some (a, b, d) → (lineCells L)[k * 3]? = some (.int .i64 (a : Nat)) ∧ (lineCells L)[k * 3 + 1]? = some (.int .i64 (b : Nat)) ∧ (lineCells L)[k * 3 + 2]? = some (.int .i64 (d : Nat)) := by
    intro L
    induction L with
    | nil => intro k hk; simp at hk
    | cons p L ih =>
      intro k hk
      cases k with
      | zero =>
        have e : p = (a, b, d) := by simpa using hk
        subst e
        exact ⟨rfl, rfl, rfl⟩
      | succ k =>
        have := ih k (by simpa using hk)
        have e : ∀ j, (lineCells (p :: L))[(k + 1) * 3 + j]? = (lineCells L)[k * 3 + j]? := fun j => by
          rw [show (k + 1) * 3 + j = (k * 3 + j) + 1 + 1 + 1 from by omega]; rfl
        exact ⟨(e 0).trans this.1, (e 1).trans this.2.1, (e 2).trans this.2.2⟩
  obtain ⟨h1, h2, h3⟩ := hg L k hk
  have g1 := hc _ _ h1
  have g2 := hc _ _ h2
  have g3 := hc _ _ h3
  rw [Addr.add_lit, Nat.zero_add] at g1 g2 g3
  exact ⟨g1, g2, g3⟩
theorem rows_at {W : World} {base n size : Nat} {e : TypeId} {v : Value} {xs : List Value} (h : W.ownsRow base e size v n xs) (hn : 0 < n) : ∃ g c, v = .slice (some ⟨g, 0, none⟩) n c ∧ g < W.heap.size := by
  rcases h.2 with ⟨rfl, h0⟩ | ⟨g, cap, cur, rfl, _, hg, _⟩
  · omega
  · exact ⟨g, cap, rfl, (Array.getElem?_eq_some_iff.1 hg).1⟩
set_option maxRecDepth 100000 in
set_option maxHeartbeats 16000000 in
theorem Tryd.HeadLacks_calls {T : World → Prop} (H : Tryd.HeadC T) (h : Hd) (a : Nat) (w : World) (hT0 : T w) (hnm : h.name.size ≤ 9223372036854775807) (ha : a ≤ 255) : Calls Tryd.prog 7 #[hdV h, .int .u8 (a : Int)] w fun e w' => e = .returned (.bool true) ∧ Below w.heap.size w w' := by
  have HT : Hid (∀ W, Below w.heap.size w W → T W) := fun W hW => H.keep w W hT0 hW
  have HSH := Lib.hid fun W h => Tryd.shown14_calls H W h
  have HMR := Lib.hid fun W => Tryd.rhmay_calls h W hnm
  cases hm : mayH h with
  | false =>
    rw [hm] at HMR
    obtain ⟨nm, k, d, c, m, l⟩ := h
    simp only [hdV] at HMR ⊢
    have HB0 := Lib.hid (below_one_h w (.cells #[.string nm, .int .i64 k, .int .i64 d, .int .i64 c, .int .i64 m, .int .i64 l] 23))
    clear H hT0 hm hnm
    go_enter Tryd.func7, Tryd.ntmps7
    go_wp2_with (first
      | (go_at_call 11; (with_reducible refine (HMR.out _).mono ?_); rintro e w1 ⟨rfl, hb1⟩; have HB1 := Lib.hid (hstep HB0.out hb1); clear hb1)
      | (go_at_call 9; (with_reducible refine (HSH.out _ (HT.out _ HB1.out)).mono ?_); rintro e w2 ⟨rfl, hb2⟩))
    go_ret
    exact ⟨rfl, hstep HB1.out hb2⟩
  | true =>
    rw [hm] at HMR
    have hPl := print_len hm
    have HPR : Hid (∀ W, T W → Calls Tryd.prog 12 #[hdV h] W fun e w' => e = .returned (.string (printE h)) ∧ Below W.heap.size W w') := fun W hW => H.print h W (by have := (name_one (mayF hm).name).2; simp at this; omega) hW
    have HLC := Lib.hid fun W => Tryd.Lines_calls (printE h) W (by omega)
    obtain ⟨hll, hlg⟩ := lines_txt (mayF hm) (itemsL h) (fun i hi => items_mem.1 hi)
    rw [← printE_txt hm] at hll hlg
    obtain ⟨hn4, hn6⟩ := items_len h
    obtain ⟨n, hn⟩ : ∃ n, (itemsL h).length = n := ⟨_, rfl⟩
    obtain ⟨q, hq⟩ : ∃ q, a % n = q := ⟨_, rfl⟩
    have hqn : q < n := by rw [← hq]; exact Nat.mod_lt _ (by omega)
    obtain ⟨x, hx⟩ : ∃ x, (itemsL h)[q]? = some x := ⟨_, List.getElem?_eq_getElem (by omega)⟩
    obtain ⟨o1, hlx⟩ := hlg q x hx
    obtain ⟨hcs, hc1, hc2, hc3⟩ := cut_line hm hx
    rw [hn] at hll
    have hqi : (a : Int) % (n : Int) = (q : Int) := by omega
    have hqi2 : (a : Int).tmod (n : Int) = (q : Int) := by rw [Int.tmod_eq_emod_of_nonneg (by omega)]; exact hqi
    have hqk : (q : Int) < (n : Int) := by omega
    have hn0 : (0 : Int) < (n : Int) := by omega
    have hnz : ((n : Int) == 0) = false := beq_eq_false_iff_ne.2 (by omega)
    have hpk := parse_lack hm hx
    have HPA : Hid (∀ W, T W → Calls Tryd.prog 14 #[.string (bs (txtI [] h ((itemsL h).take q)) ++ bs (txtI [] h ((itemsL h).drop (q + 1))) ++ ⟨#[69, 79, 70, 10]⟩)] W fun e w' => e = .returned (.tuple #[.agg #[.string ⟨#[]⟩, .int .i64 0, .int .i64 0, .int .i64 0, .int .i64 0, .int .i64 0], .int .i64 0, .agg #[.int .i64 ((bs (txtI [] h ((itemsL h).take q)) ++ bs (txtI [] h ((itemsL h).drop (q + 1)))).size : Int), .int .i64 142]]) ∧ Below W.heap.size W w') := fun W hW => (H.parse _ W (by
      rw [← hc2, ← hc3]
      simp only [ByteArray.size_append, ByteArray.size_extract]
      show _ + 4 ≤ _
      omega) hW).mono fun e w' hh => ⟨hh.1.trans (by rw [hpk, ByteArray.size_append, bs_size, bs_size]; rfl), hh.2⟩
    rw [← hc2, ← hc3] at HPA
    obtain ⟨o0, ho0⟩ : ∃ o, offI h (itemsL h) q = o := ⟨_, rfl⟩
    obtain ⟨o2, ho2⟩ : ∃ o, o0 + (lnI [] h x).length + 1 = o := ⟨_, rfl⟩
    rw [ho0, ho2] at hcs HPA hlx
    have hsl1 : ∀ W, (Instr.slice 9 (.string (printE h)) none (some (.int .i64 (o0 : Int))) none).run Tryd.prog W = .ok (.string ((printE h).extract 0 o0)) W := fun W => by
      rw [run_slice_string_h W 9 _ Tryd.underlying9 .i64 (o0 : Int) (by omega) (by omega), Int.toNat_natCast]
    have hsl2 : ∀ W, (Instr.slice 9 (.string (printE h)) (some (.int .i64 (o2 : Int))) none none).run Tryd.prog W = .ok (.string ((printE h).extract o2 (printE h).size)) W := fun W => by
      rw [run_slice_string_l W 9 _ Tryd.underlying9 .i64 (o2 : Int) (by omega) (by omega), Int.toNat_natCast]
    have hsa : ((printE h).extract 0 o0).size ≤ 384 := by rw [ByteArray.size_extract]; omega
    have hsb : ((printE h).extract o2 (printE h).size).size ≤ 384 := by rw [ByteArray.size_extract]; omega
    clear hc1 hc2 hc3 hpk hlg hx hn hq
    generalize (printE h).extract 0 o0 = PA at *
    generalize (printE h).extract o2 (printE h).size = PB at *
    generalize printE h = P at *
    generalize lines P.data.toList = LL at *
    obtain ⟨nm, k, d, c, m, l⟩ := h
    simp only [hdV] at HMR HPR ⊢
    have hPi : (P.size : Int) ≤ 384 := by omega
    have z1 : ¬ 9223372036854775807 < PA.size + PB.size := by omega
    have z2 : ¬ 9223372036854775807 < PA.size + PB.size + 4 := by omega
    have HC0 := Lib.hid (below_one_h w (.cells #[.string nm, .int .i64 k, .int .i64 d, .int .i64 c, .int .i64 m, .int .i64 l] 23))
    have HX0 := Lib.hid (World.alloc_heap_new w (.cells #[.string nm, .int .i64 k, .int .i64 d, .int .i64 c, .int .i64 m, .int .i64 l] 23))
    have HLX := Lib.hid hlx
    have HLL := Lib.hid hll
    clear H hT0 hm hnm hPl hcs hlx hll
    go_enter Tryd.func7, Tryd.ntmps7
    go_upto_region 6 with (first
      | (go_at_call 11; (with_reducible refine (HMR.out _).mono ?_); rintro e w1 ⟨rfl, hb1⟩; have HC1 := Lib.hid (hstep HC0.out hb1); have HX1 := Lib.hid (hbox_next HX0.out hb1); clear hb1)
      | (go_at_call 9; (with_reducible refine (HSH.out _ (HT.out _ HC1.out)).mono ?_); rintro e w2 ⟨rfl, hb2⟩; have HC2 := Lib.hid (hstep HC1.out hb2); have aB := hbox_next HX1.out hb2; have a0 : w2.cell? ⟨w.heap.size, 0, none⟩ = some (.string nm) := (hbox_cell aB 0).1; have a1 : w2.cell? ⟨w.heap.size, 1, none⟩ = some (.int .i64 k) := (hbox_cell aB 1).1; have a2 : w2.cell? ⟨w.heap.size, 2, none⟩ = some (.int .i64 d) := (hbox_cell aB 2).1; have a3 : w2.cell? ⟨w.heap.size, 3, none⟩ = some (.int .i64 c) := (hbox_cell aB 3).1; have a4 : w2.cell? ⟨w.heap.size, 4, none⟩ = some (.int .i64 m) := (hbox_cell aB 4).1; have a5 : w2.cell? ⟨w.heap.size, 5, none⟩ = some (.int .i64 l) := (hbox_cell aB 5).1; clear hb2 aB)
      | (go_at_call 12; (with_reducible refine (HPR.out _ (HT.out _ HC2.out)).mono ?_); rintro e w3 ⟨rfl, hb3⟩; have HC3 := Lib.hid (hstep HC2.out hb3); clear hb3 a0 a1 a2 a3 a4 a5)
      | (go_at_call 15; (with_reducible refine (HLC.out _).mono ?_); rintro e w4 ⟨lv, rfl, hl4, hb4⟩; go_loud (have HC4 := Lib.hid (hstep HC3.out hb4); rw [HLL.out] at hl4; obtain ⟨g, cl, rfl, hg⟩ := rows_at hl4 (by omega); obtain ⟨x0, x1, x2⟩ := hline_cells3 (L := LL) (by rw [HLL.out]; exact hl4) HLX.out; clear hl4 hb4)))
    have HC5 : Hid (∀ n, Below w.heap.size w ((w4.alloc (.cells #[.int .i64 (o0 : Nat), .int .i64 (o1 : Nat), .int .i64 (o2 : Nat)] 39)).drewN n)) := fun n => (hstep HC4.out (below_one_h w4 (.cells #[.int .i64 (o0 : Nat), .int .i64 (o1 : Nat), .int .i64 (o2 : Nat)] 39))).trans ⟨rfl, rfl, rfl, Nat.le_refl _, fun _ _ => rfl⟩
    have yB := World.alloc_heap_new w4 (.cells #[.int .i64 (o0 : Nat), .int .i64 (o1 : Nat), .int .i64 (o2 : Nat)] 39)
    have y0 : (w4.alloc (.cells #[.int .i64 (o0 : Nat), .int .i64 (o1 : Nat), .int .i64 (o2 : Nat)] 39)).cell? ⟨w4.heap.size, 0, none⟩ = some (.int .i64 (o0 : Nat)) := (hbox_cell yB 0).1
    have y2 : (w4.alloc (.cells #[.int .i64 (o0 : Nat), .int .i64 (o1 : Nat), .int .i64 (o2 : Nat)] 39)).cell? ⟨w4.heap.size, 2, none⟩ = some (.int .i64 (o2 : Nat)) := (hbox_cell yB 2).1
    clear x0 x1 x2 yB hg
    generalize w4.alloc (.cells #[.int .i64 (o0 : Nat), .int .i64 (o1 : Nat), .int .i64 (o2 : Nat)] 39) = V at *
    go_quiet (fail)
    go_wp2_with (go_at_call 14; (with_reducible refine (HPA.out _ (HT.out _ (HC5.out _))).mono ?_); rintro e w6 ⟨rfl, hb6⟩; have HC6 := Lib.hid (hstep (HC5.out _) hb6); clear hb6)
    go_ret
    exact ⟨rfl, hstep HC6.out (below_two_n _ _ _)⟩
end Go.Proofs
