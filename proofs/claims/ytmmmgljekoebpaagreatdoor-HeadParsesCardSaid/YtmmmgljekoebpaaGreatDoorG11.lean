/- The landed head's tell: the head that a map of what was taken makes. Conditions: the map holds what it holds. -/
import Derived.Test.YtmmmgljekoebpaaGreatDoorG09
import Derived.Test.YtmmmgljekoebpaaGreatDoorG10
import Derived.Test.YtmmmgljekoebpaaGreatDoorG01
namespace Go.Proofs
open Go.RowKit Go.Hdr Go.AnyMap
attribute [local go_sem] Oper.semAt_some
set_option linter.unusedVariables false
set_option maxRecDepth 100000 in
set_option maxHeartbeats 4000000 in
theorem Tryz.htell_calls (w : World) (b n : Nat) (f : ByteArray → Option Value) (nm : ByteArray) (k d c m l : Int) (a0 a1 a2 a3 a4 a5 : Bool) (h : HasMap Tryz.prog 9 w b n f)
    (h0 : TextV ((f hkName).getD .nilIface) nm a0) (h1 : IntV ((f hkType).getD .nilIface) k a1) (h2 : IntV ((f hkDim).getD .nilIface) d a2) (h3 : IntV ((f hkCap).getD .nilIface) c a3) (h4 : IntV ((f hkMet).getD .nilIface) m a4) (h5 : IntV ((f hkLay).getD .nilIface) l a5) :
    Calls Tryz.prog 11 #[.map (some b)] w fun e w' => e = .returned (.tuple #[hdV ⟨nm, k, d, c, m, l⟩, .bool (!(!a0 || !a1 || !a2 || !a4 || (decide (k = 2) && !a3) || (decide (m = 0) && !a5)))]) ∧ Below w.heap.size w w' := by
  have hlt := h.lt
  have A0 := fun W => h0.run (W := W)
  have A1 := fun W => h1.run (W := W)
  have A2 := fun W => h2.run (W := W)
  have A3 := fun W => h3.run (W := W)
  have A4 := fun W => h4.run (W := W)
  have A5 := fun W => h5.run (W := W)
  have LL : ∀ K : ByteArray, K.size ≤ 20 → ∀ o1 o2, (Instr.lookup 39 (.map (some b)) (.string K) false).run Tryz.prog ((w.alloc o1).alloc o2) = .ok ((f K).getD .nilIface) ((w.alloc o1).alloc o2) := fun K hK o1 o2 =>
    (h.below hlt (((Below.refl _ w).alloc (Nat.le_refl _) o1).alloc (by simp) o2)).look Tryz.underlying9 Tryz.underlying39 (any_zero _) K (Nat.le_trans hK (by decide))
  have L0 := LL hkName (by decide)
  have L1 := LL hkType (by decide)
  have L2 := LL hkDim (by decide)
  have L3 := LL hkCap (by decide)
  have L4 := LL hkMet (by decide)
  have L5 := LL hkLay (by decide)
  generalize (f hkName).getD .nilIface = v0 at *
  generalize (f hkType).getD .nilIface = v1 at *
  generalize (f hkDim).getD .nilIface = v2 at *
  generalize (f hkCap).getD .nilIface = v3 at *
  generalize (f hkMet).getD .nilIface = v4 at *
  generalize (f hkLay).getD .nilIface = v5 at *
  simp only [hkName, hkType, hkDim, hkCap, hkMet, hkLay] at L0 L1 L2 L3 L4 L5
  clear LL
  clear h0 h1 h2 h3 h4 h5 h
  go_enter Tryz.func11, Tryz.ntmps11
  go_wp2
  all_goals
    have hB : ∀ o1 o2, Below w.heap.size w ((w.alloc o1).alloc o2) := fun o1 o2 => ((Below.refl _ w).alloc (Nat.le_refl _) o1).alloc (by simp) o2
    clear L0 L1 L2 L3 L4 L5 A0 A1 A2 A3 A4 A5
    first
      | (refine bodyPost_ret (v := .tuple #[hdV ⟨nm, k, d, c, m, l⟩, .bool false]) (by simp [results, Tryz.results11, go_sem, hdV] <;> simp_all) rfl ⟨?_, hB _ _⟩; simp_all; done)
      | (refine bodyPost_ret (v := .tuple #[hdV ⟨nm, k, d, c, m, l⟩, .bool true]) (by simp [results, Tryz.results11, go_sem, hdV] <;> simp_all) rfl ⟨?_, hB _ _⟩; simp_all; done)
      | (refine bodyPost_ret (v := .tuple #[hdV ⟨nm, k, d, c, m, l⟩, .bool (m != 0)]) (by simp [results, Tryz.results11, go_sem, hdV] <;> simp_all) rfl ⟨?_, hB _ _⟩; simp_all; rfl)
      | (refine bodyPost_ret (v := .tuple #[hdV ⟨nm, k, d, c, m, l⟩, .bool (k != 2)]) (by simp [results, Tryz.results11, go_sem, hdV] <;> simp_all) rfl ⟨?_, hB _ _⟩; simp_all; done)
      | fail
end Go.Proofs
#print axioms Go.Proofs.Tryz.htell_calls
/- The landed head's Parse. Conditions: a text of at most a million bytes; the tables hold what the card lays. -/
namespace Go.Proofs
open Go.RowKit Go.Shelf Go.Hdr Go.AnyMap Go.Wds Go.Cur
attribute [local go_sem] Oper.semAt_some
set_option linter.unusedVariables false
/-- What Parse has between rows: its results' boxes, the map, the rows. -/
structure Tryz.HpS (w : World) (B k m : Nat) (ao : Option Addr) (L : List (Nat × Nat × Nat)) (f : ByteArray → Option Value) (W : World) : Prop where
  below : Below w.heap.size w W
  res : W.heap[w.heap.size]? = some (.cells #[.string ⟨#[]⟩, .int .i64 0, .int .i64 0, .int .i64 0, .int .i64 0, .int .i64 0] 24)
  dg : W.heap[w.heap.size + 1]? = some (.cells #[.int .i64 0, .int .i64 0] 27)
  map : HasMap Tryz.prog 9 W B k f
  lo : w.heap.size + 2 ≤ B
  rows : 0 < m → ∃ g, ao = some ⟨g, 0, none⟩ ∧ g < B ∧ ∀ k a b d, k < m → L[k]? = some (a, b, d) → W.cell? ⟨g, k * 3, none⟩ = some (.int .i64 (a : Nat)) ∧ W.cell? ⟨g, k * 3 + 1, none⟩ = some (.int .i64 (b : Nat)) ∧ W.cell? ⟨g, k * 3 + 2, none⟩ = some (.int .i64 (d : Nat))
theorem Tryz.HpS.but {w W W' : World} {B k k' m : Nat} {ao : Option Addr} {L : List (Nat × Nat × Nat)} {f f' : ByteArray → Option Value} (h : Tryz.HpS w B k m ao L f W) (hb : But B W W') (hm : HasMap Tryz.prog 9 W' B k' f') : Tryz.HpS w B k' m ao L f' W' := by
  have hlo := h.lo
  have hBW := h.map.lt
  refine ⟨⟨hb.os.trans h.below.os, hb.tape.trans h.below.tape, hb.output.trans h.below.output, Nat.le_trans h.below.size hb.size, fun j hj => (hb.block j (Nat.lt_of_lt_of_le hj h.below.size) (by omega)).trans (h.below.block j hj)⟩, (hb.block _ (hbox_lt h.res) (by omega)).trans h.res, (hb.block _ (hbox_lt h.dg) (by omega)).trans h.dg, hm, hlo, fun hp => ?_⟩
  obtain ⟨g, h1, h2, h3⟩ := h.rows hp
  have hc := fun o => hb.cell (k := g) (by omega) (by omega) o
  exact ⟨g, h1, h2, fun k a b d hk hr => by rw [hc, hc, hc]; exact h3 k a b d hk hr⟩
theorem Tryz.HpS.next {w W W' : World} {B k m : Nat} {ao : Option Addr} {L : List (Nat × Nat × Nat)} {f : ByteArray → Option Value} (h : Tryz.HpS w B k m ao L f W) (hb : Below W.heap.size W W') : Tryz.HpS w B k m ao L f W' := h.but (but_of_below hb (Nat.le_refl _)) (h.map.below h.map.lt hb)
theorem Tryz.HpS.resat {w W : World} {B k m : Nat} {ao : Option Addr} {L : List (Nat × Nat × Nat)} {f : ByteArray → Option Value} (h : Tryz.HpS w B k m ao L f W) : (W.cell? ⟨w.heap.size, 0, none⟩ = some (.string ⟨#[]⟩) ∧ W.cell? ⟨w.heap.size, 1, none⟩ = some (.int .i64 0) ∧ W.cell? ⟨w.heap.size, 2, none⟩ = some (.int .i64 0) ∧ W.cell? ⟨w.heap.size, 3, none⟩ = some (.int .i64 0) ∧ W.cell? ⟨w.heap.size, 4, none⟩ = some (.int .i64 0) ∧ W.cell? ⟨w.heap.size, 5, none⟩ = some (.int .i64 0)) ∧ (W.cell? ⟨w.heap.size + 1, 0, none⟩ = some (.int .i64 0) ∧ W.cell? ⟨w.heap.size + 1, 1, none⟩ = some (.int .i64 0)) ∧ (∀ j, W.frozen? ⟨w.heap.size, j, none⟩ = false) ∧ (∀ j, W.frozen? ⟨w.heap.size + 1, j, none⟩ = false) :=
  ⟨⟨(hbox_cell h.res 0).1, (hbox_cell h.res 1).1, (hbox_cell h.res 2).1, (hbox_cell h.res 3).1, (hbox_cell h.res 4).1, (hbox_cell h.res 5).1⟩, ⟨(hbox_cell h.dg 0).1, (hbox_cell h.dg 1).1⟩, fun j => (hbox_cell h.res j).2, fun j => (hbox_cell h.dg j).2⟩
/-- Parse's results, as they lie in their boxes at the end. -/
theorem eight_end {w W : World} {x0 x1 x2 x3 x4 x5 y0 y1 : Value} (h : Below w.heap.size w W) : Below w.heap.size w ((((((((W.setCell ⟨w.heap.size, 0, none⟩ x0).setCell ⟨w.heap.size, 1, none⟩ x1).setCell ⟨w.heap.size, 2, none⟩ x2).setCell ⟨w.heap.size, 3, none⟩ x3).setCell ⟨w.heap.size, 4, none⟩ x4).setCell ⟨w.heap.size, 5, none⟩ x5).setCell ⟨w.heap.size + 1, 0, none⟩ y0).setCell ⟨w.heap.size + 1, 1, none⟩ y1) :=
  (((six_below h (Nat.le_refl _)).setCell (by simp) _).setCell (by simp) _)
set_option maxRecDepth 100000 in
set_option maxHeartbeats 16000000 in
theorem Tryz.hparse_calls (s : ByteArray) (w : World) (hs : s.size ≤ 1000000) (hK : KeyTab w) (hLy : LayTab w) :
    Calls Tryz.prog 5 #[.string s] w fun e w' => e = .returned (.tuple #[hdV (parseE s).1, .int .i64 ((parseE s).2.1 : Nat), .agg #[.int .i64 ((parseE s).2.2.1 : Nat), .int .i64 (parseE s).2.2.2]]) ∧ Below w.heap.size w w' := by
  have RS := fun w => Tryz.hsplit_calls s w (by omega)
  have MK := fun W => any_make W
  have hbd : ∀ r ∈ rowsOf s.data.toList, r.1 ≤ r.2.1 ∧ r.2.1 ≤ s.data.toList.length := rows_bd
  have hsz : s.data.toList.length = s.size := by simp
  have hlen : (rowsOf s.data.toList).length ≤ 1000001 := Nat.le_trans (List.length_filter_le _ _) (Nat.le_trans (lines_len s) (by omega))
  have PB := Lib.hid fun (x : Nat) (c : Int) h => parse_bad (s := s) (x := x) (c := c) h
  have PN := Lib.hid fun (p : Pr) (e : Nat) h => parse_end (s := s) (p := p) (e := e) h
  rw [hsz] at hbd
  generalize hL : rowsOf s.data.toList = L at *
  have hm : (splitE s L).1 ≤ L.length := splitE_le s L
  have HS0 := Lib.hid (show splitE s L = ((splitE s L).1, (splitE s L).2) from rfl)
  generalize hgm : (splitE s L).1 = m at *
  generalize hge : (splitE s L).2 = en at *
  have HBD := Lib.hid hbd
  have TK := Lib.hid fun W (h : Below w.heap.size w W) => hK.below h
  have TL := Lib.hid fun W (h : Below w.heap.size w W) => hLy.below h
  generalize hR : parseE s = R at *
  clear hbd hK hLy hgm hge hL hsz hR
  have HTK := Lib.hid fun (a b c : Nat) (W : World) (B n : Nat) f h hn hab hb hk hl => Tryz.htake_calls s a b c W B n f h hn (by omega) hab hb hk hl
  have HTE := Lib.hid fun (W : World) (b n : Nat) f nm k d c m l a0 a1 a2 a3 a4 a5 h h0 h1 h2 h3 h4 h5 => Tryz.htell_calls W b n f nm k d c m l a0 a1 a2 a3 a4 a5 h h0 h1 h2 h3 h4 h5
  go_enter Tryz.func5, Tryz.ntmps5
  go_wp2_with (go_at_call 9; (with_reducible refine (RS _).mono ?_); rintro e w1 ⟨v, rfl, ⟨ao, c, rfl, hv⟩, hw1⟩)
  have hq : w.heap.size + 2 ≤ w1.heap.size := by have := hw1.size; simp only [World.size_alloc] at this; omega
  have HP0 : Tryz.HpS w w1.heap.size 0 m ao L (fun _ => none) (w1.alloc (.map #[] 0)) := by
    have b0 := below_one_h w1 (.map #[] 0)
    refine ⟨hstep (hstep (below_two_n w (.cells #[.string ⟨#[]⟩, .int .i64 0, .int .i64 0, .int .i64 0, .int .i64 0, .int .i64 0] 24) (.cells #[.int .i64 0, .int .i64 0] 27)) hw1) b0, hbox_next (hbox_next (hbox_one w (.cells #[.string ⟨#[]⟩, .int .i64 0, .int .i64 0, .int .i64 0, .int .i64 0, .int .i64 0] 24) (.cells #[.int .i64 0, .int .i64 0] 27)) hw1) b0, hbox_next (hbox_next (hbox_two w (.cells #[.string ⟨#[]⟩, .int .i64 0, .int .i64 0, .int .i64 0, .int .i64 0, .int .i64 0] 24) (.cells #[.int .i64 0, .int .i64 0] 27)) hw1) b0, HasMap.made w1 Tryz.prog 9, hq, fun hp => ?_⟩
    obtain ⟨g, h1, _, h2, h3⟩ := hv hp
    have hc := fun o => b0.cell (p := ⟨g, o, none⟩) h2
    exact ⟨g, h1, h2, fun k a b d hk hr => by rw [hc, hc, hc]; exact h3 k a b d hk hr⟩
  clear hv hw1 RS MK
  obtain ⟨B, hB⟩ : ∃ B, w1.heap.size = B := ⟨_, rfl⟩
  rw [hB] at HP0 ⊢
  have HP0 := Lib.hid HP0
  obtain ⟨W1, hW1⟩ : ∃ W1, w1.alloc (.map #[] 0) = W1 := ⟨_, rfl⟩
  rw [hW1] at HP0 ⊢
  clear hB hq hW1
  go_loopw [21] (fun i wr => ∃ (k : Nat) (f : ByteArray → Option Value) (p : Pr), k ≤ m ∧ i = .int .i64 (k : Int) ∧ Hid (Tryz.HpS w B k m ao L f wr) ∧ Hid (MapPr f p) ∧ Hid (rowsE14 s L pr0 = rowsE14 s (L.drop k) p) ∧ Hid (splitE s (L.drop k) = (m - k, en))) (fun i _ => m - (intOf i).toNat)
  case atStart => exact ⟨0, _, pr0, Nat.zero_le _, rfl, HP0, Lib.hid MapPr.start, Lib.hid rfl, Lib.hid (by simpa using HS0.out)⟩
  case round =>
    clear HP0
    obtain ⟨k, f, p, hk, rfl, HP, HM, HR, HS⟩ := hrel
    by_cases hlt : k < m
    · obtain ⟨⟨a, b, d⟩, hr⟩ : ∃ r, L[k]? = some r := ⟨L[k], List.getElem?_eq_getElem (by omega)⟩
      obtain ⟨g, hgs, hgB, hcs⟩ := HP.out.rows (Nat.lt_of_le_of_lt (Nat.zero_le _) hlt)
      cases hgs
      obtain ⟨c1, c2, c3⟩ := hcs k a b d hlt hr
      clear hcs
      obtain ⟨hab, hbs⟩ := HBD.out _ (List.mem_of_getElem? hr)
      dsimp only at hab hbs
      obtain ⟨hen, hsp⟩ := split_succ (m := m - k - 1) (by rw [HS.out, show m - k - 1 + 1 = m - k by omega]) hr
      have hst := hrows_step (s := s) hr p
      have hrl := HR.out.trans hst
      have HN := HP.out.next (below_one_h wr (.cells #[.int .i64 (a : Nat), .int .i64 (b : Nat), .int .i64 (d : Nat)] 41))
      have HT := HTK.out a b d (wr.alloc (.cells #[.int .i64 (a : Nat), .int .i64 (b : Nat), .int .i64 (d : Nat)] 41)) B k f HN.map (by omega) hab hbs (TK.out _ HN.below) (TL.out _ HN.below)
      obtain ⟨T, hT⟩ : ∃ T, takeR a (keyE s a b).2.1.1 f (keyE s a b).1 (keyE s a b).2.2 (readE (keyE s a b).1 (textI s (keyE s a b).2.1.1 (keyE s a b).2.1.2)) = T := ⟨_, rfl⟩
      rw [hT] at HT
      have htr := take_row HM.out s a b d hen hT
      have HNN := Lib.hid HN
      have HTT := Lib.hid HT
      clear hr hst hT HN HT hab hbs hen
      have HSP := Lib.hid hsp
      clear hsp
      obtain ⟨⟨x, c⟩, f'⟩ := T
      rcases htr with ⟨x', c', hrow, h1, hc0⟩ | ⟨p', hrow, h1, h2⟩
      · cases h1
        rw [hrow] at hrl
        have HE := Lib.hid (PB.out _ _ hrl)
        have hcc : (c == 0) = false := beq_eq_false_iff_ne.2 hc0
        clear hrl hrow hc0 HSP
        go_upto_region 8 with (go_at_call 10; (with_reducible refine HTT.out.mono ?_); rintro e w2 ⟨rfl, hm2, hb2⟩; have HN2 := (HNN.out.but hb2 hm2); have DB2 := World.alloc_heap_new w2 (.cells #[.int .i64 (x : Nat), .int .i64 c] 27); have HN3 := HN2.next (below_one_h w2 (.cells #[.int .i64 (x : Nat), .int .i64 c] 27)); go_loud (obtain ⟨d0, d1⟩ := two_cells DB2); have HN3 := Lib.hid HN3; have HNE := Lib.hid (show w2.heap.size ≠ w.heap.size ∧ w2.heap.size ≠ w.heap.size + 1 ∧ w.heap.size ≠ w2.heap.size ∧ w.heap.size + 1 ≠ w2.heap.size by have := hbox_lt HN2.dg; omega); clear HN2 hm2 hb2 DB2)
        have HB9 := Lib.hid HN3.out.below
        obtain ⟨⟨r0, r1, r2, r3, r4, r5⟩, ⟨q0, q1⟩, fr, fq⟩ := HN3.out.resat
        have f0 := fr 0; have f1 := fr 1; have f2 := fr 2; have f3 := fr 3; have f4 := fr 4; have f5 := fr 5; have g0 := fq 0; have g1 := fq 1
        clear fr fq
        obtain ⟨n1, n2, n3, n4⟩ := HNE.out
        go_region
        go_wp2
        refine bodyPost_ret (v := .tuple #[hdV hd0, .int .i64 0, .agg #[.int .i64 (x : Nat), .int .i64 c]]) (by simp [results, Tryz.results5, go_sem, hdV, hd0, r0, r1, r2, r3, r4, r5, q0, q1]) rfl ⟨by rw [HE.out]; rfl, ?_⟩
        exact below_drew_h (eight_end HB9.out)
      · cases h1
        rw [hrow] at hrl
        go_wp2_with (go_at_call 10; (with_reducible refine HTT.out.mono ?_); rintro e w2 ⟨rfl, hm2, hb2⟩; have HN2 := (HNN.out.but hb2 hm2); have DB2 := World.alloc_heap_new w2 (.cells #[.int .i64 (0 : Nat), .int .i64 0] 27); have HN3 := HN2.next (below_one_h w2 (.cells #[.int .i64 (0 : Nat), .int .i64 0] 27)); go_loud (obtain ⟨d0, d1⟩ := two_cells DB2); have HN3 := Lib.hid HN3; clear HN2 hm2 hb2 DB2)
        go_roundw
        case rel => exact ⟨k + 1, f', p', by omega, by go_num, HN3, Lib.hid h2, Lib.hid hrl, Lib.hid (HSP.out.trans (Prod.ext (by dsimp only; omega) rfl))⟩
        case measure => simp [intOf]; omega
    · obtain rfl : k = m := by omega
      have hrl := HR.out.trans (split_zero (p := p) (by rw [HS.out, Nat.sub_self]))
      have HE := Lib.hid (PN.out _ _ hrl)
      clear hrl HR HS
      have HT : Calls Tryz.prog 11 #[.map (some B)] wr fun e w' => e = .returned (.tuple #[hdV p.h, .bool (!lackE p)]) ∧ Below wr.heap.size wr w' := HTE.out wr B k f p.h.name p.h.kind p.h.dim p.h.cap p.h.met p.h.lay _ _ _ _ _ _ HP.out.map HM.out.text HM.out.kind HM.out.dim HM.out.cap HM.out.met HM.out.lay
      clear HM
      generalize p.h = H at *
      obtain ⟨nm, k0, d0, c0, m0, l0⟩ := H
      unfold hdV at HT
      have HTT := Lib.hid HT
      clear HT
      cases hl : lackE p with
      | true =>
        rw [hl] at HTT HE
        rw [if_pos rfl] at HE
        go_wp2_with (go_at_call 11; (with_reducible refine HTT.out.mono ?_); rintro e w2 ⟨rfl, hw2⟩; have HN3 := (HP.out.next hw2).next (below_one_h w2 (.cells #[.string nm, .int .i64 k0, .int .i64 d0, .int .i64 c0, .int .i64 m0, .int .i64 l0] 24)); have HBX := World.alloc_heap_new w2 (.cells #[.string nm, .int .i64 k0, .int .i64 d0, .int .i64 c0, .int .i64 m0, .int .i64 l0] 24); go_loud (obtain ⟨⟨r0, r1, r2, r3, r4, r5⟩, ⟨q0, q1⟩, fr, fq⟩ := HN3.resat; have f0 := fr 0; have f1 := fr 1; have f2 := fr 2; have f3 := fr 3; have f4 := fr 4; have f5 := fr 5; have g0 := fq 0; have g1 := fq 1; have x0 := (hbox_cell HBX 0).1; have x1 := (hbox_cell HBX 1).1; have x2 := (hbox_cell HBX 2).1; have x3 := (hbox_cell HBX 3).1; have x4 := (hbox_cell HBX 4).1; have x5 := (hbox_cell HBX 5).1; clear fr fq); have HB9 := Lib.hid HN3.below; clear HN3 HBX hw2)
        refine bodyPost_ret (v := .tuple #[hdV hd0, .int .i64 0, .agg #[.int .i64 (en : Nat), .int .i64 142]]) (by simp [results, Tryz.results5, go_sem, hdV, hd0, r0, r1, r2, r3, r4, r5, q0, q1]) rfl ⟨by rw [HE.out]; rfl, ?_⟩
        exact eight_end HB9.out
      | false =>
        rw [hl] at HTT HE
        rw [if_neg (by decide)] at HE
        go_wp2_with (go_at_call 11; (with_reducible refine HTT.out.mono ?_); rintro e w2 ⟨rfl, hw2⟩; have HN3 := (HP.out.next hw2).next (below_one_h w2 (.cells #[.string nm, .int .i64 k0, .int .i64 d0, .int .i64 c0, .int .i64 m0, .int .i64 l0] 24)); have HBX := World.alloc_heap_new w2 (.cells #[.string nm, .int .i64 k0, .int .i64 d0, .int .i64 c0, .int .i64 m0, .int .i64 l0] 24); go_loud (obtain ⟨⟨r0, r1, r2, r3, r4, r5⟩, ⟨q0, q1⟩, fr, fq⟩ := HN3.resat; have f0 := fr 0; have f1 := fr 1; have f2 := fr 2; have f3 := fr 3; have f4 := fr 4; have f5 := fr 5; have g0 := fq 0; have g1 := fq 1; have x0 := (hbox_cell HBX 0).1; have x1 := (hbox_cell HBX 1).1; have x2 := (hbox_cell HBX 2).1; have x3 := (hbox_cell HBX 3).1; have x4 := (hbox_cell HBX 4).1; have x5 := (hbox_cell HBX 5).1; clear fr fq); have HB9 := Lib.hid HN3.below; clear HN3 HBX hw2)
        refine bodyPost_ret (v := .tuple #[hdV ⟨nm, k0, d0, c0, m0, l0⟩, .int .i64 (en : Nat), .agg #[.int .i64 0, .int .i64 0]]) (by simp [results, Tryz.results5, go_sem, hdV, r0, r1, r2, r3, r4, r5, q0, q1]) rfl ⟨by rw [HE.out]; rfl, ?_⟩
        exact eight_end HB9.out
#print axioms Tryz.hparse_calls
end Go.Proofs
/- The landed head's May. Conditions: the tables of keywords hold what the card lays; the name is no longer than two million bytes. -/
namespace Go.Hdr
open Go.Metric Go.Layout Go.Wds
theorem kwK_some (k : Int) : (¬ kwK k = ⟨#[]⟩) ↔ (k = 1 ∨ k = 2) := by
  unfold kwK hkTsp hkCvrp
  by_cases h1 : k = 1
  · subst h1; decide +kernel
  by_cases h2 : k = 2
  · subst h2; decide +kernel
  rw [if_neg h1, if_neg h2]
  exact ⟨fun h => absurd rfl h, fun h => by omega⟩
theorem kwS_some (k : Int) : (¬ kwS k = ⟨#[]⟩) ↔ (0 ≤ k ∧ k ≤ 5) := by
  by_cases h : 0 ≤ k ∧ k ≤ 5
  · rcases (show k = 0 ∨ k = 1 ∨ k = 2 ∨ k = 3 ∨ k = 4 ∨ k = 5 by omega) with rfl | rfl | rfl | rfl | rfl | rfl <;> decide +kernel
  · unfold kwS
    rw [if_neg (by omega), if_neg (by omega), if_neg (by omega), if_neg (by omega), if_neg (by omega), if_neg (by omega)]
    exact ⟨fun h => absurd rfl h, fun h => by omega⟩
theorem lkwS_some (k : Int) : (¬ lkwS k = ⟨#[]⟩) ↔ (1 ≤ k ∧ k ≤ 7) := by
  by_cases h : 1 ≤ k ∧ k ≤ 7
  · rcases (show k = 1 ∨ k = 2 ∨ k = 3 ∨ k = 4 ∨ k = 5 ∨ k = 6 ∨ k = 7 by omega) with rfl | rfl | rfl | rfl | rfl | rfl | rfl <;> decide +kernel
  · rw [lkwS_none h]
    exact ⟨fun h => absurd rfl h, fun h => by omega⟩
theorem mayH_is (h : Hd) : mayH h = (nameL h.name.data.toList && (!decide (kwK h.kind = ⟨#[]⟩) && (decide (1 ≤ h.dim ∧ h.dim ≤ 400) && (capB h && (!decide (kwS h.met = ⟨#[]⟩) && layB h))))) := by
  have e1 : (!decide (kwK h.kind = ⟨#[]⟩)) = decide (h.kind = 1 ∨ h.kind = 2) := by rw [← decide_not]; exact decide_eq_decide.2 (kwK_some _)
  have e2 : (!decide (kwS h.met = ⟨#[]⟩)) = decide (0 ≤ h.met ∧ h.met ≤ 5) := by rw [← decide_not]; exact decide_eq_decide.2 (kwS_some _)
  have e3 : decide (¬ lkwS h.lay = ⟨#[]⟩) = decide (1 ≤ h.lay ∧ h.lay ≤ 7) := decide_eq_decide.2 (lkwS_some _)
  rw [e1, e2]
  unfold mayH capB layB
  rw [e3]
  cases nameL h.name.data.toList
  · rfl
  · obtain ⟨nm, k, d, c, m, l⟩ := h
    dsimp only
    by_cases hk : k = 2 <;> by_cases hm : m = 0 <;> (first | rw [if_pos hk] | rw [if_neg hk]) <;> (first | rw [if_pos hm] | rw [if_neg hm]) <;> rw [Bool.eq_iff_iff] <;> simp only [Bool.true_and, Bool.and_eq_true, decide_eq_true_eq] <;> omega
end Go.Hdr
namespace Go.Proofs
open Go.RowKit Go.Shelf Go.Hdr Go.Fx Go.Wds Go.Metric Go.Layout
attribute [local go_sem] Oper.semAt_some
set_option linter.unusedVariables false
set_option maxRecDepth 100000 in
set_option maxHeartbeats 4000000 in
theorem Tryz.hmay_calls (h : Hd) (w : World) (hs : h.name.size ≤ 2000000) (hK : KeyTab w) (hL : LayTab w) :
    Calls Tryz.prog 8 #[hdV h] w fun e w' => e = .returned (.bool (mayH h)) ∧ Below w.heap.size w w' := by
  have RN := fun w => Tryz.Name_calls h.name w hs
  have RC := fun w => Tryz.capFits_calls h w
  have RL := fun w hl => Tryz.layFits_calls h w hl
  have RK := fun w => Tryz.kwK_calls h.kind w
  have RM := fun w hk => Tryz.Keyword_calls h.met w hk
  have RD := fun w => Tryz.within_calls h.dim 400 w
  have HV := mayH_is h
  have TK := Lib.hid fun W (h : Below w.heap.size w W) => hK.below h
  have TL := Lib.hid fun W (h : Below w.heap.size w W) => hL.below h
  clear hK hL
  generalize mayH h = r at *
  generalize capB h = q4 at *
  generalize layB h = q6 at *
  obtain ⟨nm, k, d, c, m, l⟩ := h
  unfold hdV at *
  dsimp only at RN RK RM RD HV hs
  have e2 := htext_beq (kwK k) []
  have e5 := htext_beq (kwS m) []
  rw [show (⟨([] : List UInt8).toArray⟩ : ByteArray) = ⟨#[]⟩ from rfl] at e2 e5
  have f2 : ((kwK k).toList != []) = !decide (kwK k = ⟨#[]⟩) := by rw [bne, e2]
  have f5 : ((kwS m).toList != []) = !decide (kwS m = ⟨#[]⟩) := by rw [bne, e5]
  generalize decide (kwK k = ⟨#[]⟩) = q2 at *
  generalize decide (kwS m = ⟨#[]⟩) = q5 at *
  generalize decide (1 ≤ d ∧ d ≤ 400) = q3 at *
  generalize nameL nm.data.toList = q1 at *
  generalize kwK k = t2 at *
  generalize kwS m = t5 at *
  have HRN := Lib.hid RN
  have HRC := Lib.hid RC
  have HRL := Lib.hid RL
  have HRK := Lib.hid RK
  have HRM := Lib.hid RM
  have HRD := Lib.hid RD
  have HV := Lib.hid HV
  clear RN RC RL RK RM RD
  cases q1
  · skip
    go_enter Tryz.func8, Tryz.ntmps8
    go_wp2_with (first
        | (go_at_call 23; (with_reducible refine (HRN.out _).mono ?_); rintro e w1 ⟨rfl, hw1⟩; have HX1 := hbox_next (World.alloc_heap_new w (.cells #[.string nm, .int .i64 k, .int .i64 d, .int .i64 c, .int .i64 m, .int .i64 l] 24)) hw1; have HB1 := Lib.hid (hstep (below_one_h w (.cells #[.string nm, .int .i64 k, .int .i64 d, .int .i64 c, .int .i64 m, .int .i64 l] 24)) hw1); go_loud (have a0 : w1.cell? ⟨w.heap.size, 0, none⟩ = some (.string nm) := (hbox_cell HX1 0).1; have a1 : w1.cell? ⟨w.heap.size, 1, none⟩ = some (.int .i64 k) := (hbox_cell HX1 1).1; have a2 : w1.cell? ⟨w.heap.size, 2, none⟩ = some (.int .i64 d) := (hbox_cell HX1 2).1; have a3 : w1.cell? ⟨w.heap.size, 3, none⟩ = some (.int .i64 c) := (hbox_cell HX1 3).1; have a4 : w1.cell? ⟨w.heap.size, 4, none⟩ = some (.int .i64 m) := (hbox_cell HX1 4).1; have a5 : w1.cell? ⟨w.heap.size, 5, none⟩ = some (.int .i64 l) := (hbox_cell HX1 5).1; have la := hbox_lt HX1); have HX1 := Lib.hid HX1; clear hw1)
        | (go_at_call 19; (with_reducible refine (HRK.out _).mono ?_); rintro e w9 ⟨rfl, hw9⟩; subst hw9)
        | (go_at_call 24; (with_reducible refine (HRD.out _).mono ?_); rintro e w9 ⟨rfl, hw9⟩; subst hw9)
        | (go_at_call 25; (with_reducible refine (HRC.out _).mono ?_); rintro e w2 ⟨rfl, hw2⟩; have HX2 := hbox_next HX1.out hw2; have HB2 := Lib.hid (hstep HB1.out hw2); go_loud (have b0 : w2.cell? ⟨w.heap.size, 0, none⟩ = some (.string nm) := (hbox_cell HX2 0).1; have b1 : w2.cell? ⟨w.heap.size, 1, none⟩ = some (.int .i64 k) := (hbox_cell HX2 1).1; have b2 : w2.cell? ⟨w.heap.size, 2, none⟩ = some (.int .i64 d) := (hbox_cell HX2 2).1; have b3 : w2.cell? ⟨w.heap.size, 3, none⟩ = some (.int .i64 c) := (hbox_cell HX2 3).1; have b4 : w2.cell? ⟨w.heap.size, 4, none⟩ = some (.int .i64 m) := (hbox_cell HX2 4).1; have b5 : w2.cell? ⟨w.heap.size, 5, none⟩ = some (.int .i64 l) := (hbox_cell HX2 5).1; have lb := hbox_lt HX2); have HX2 := Lib.hid HX2; clear hw2)
        | (go_at_call 21; (with_reducible refine (HRM.out _ (TK.out _ HB2.out)).mono ?_); rintro e w9 ⟨rfl, hw9⟩; subst hw9)
        | (go_at_call 26; (with_reducible refine (HRL.out _ (TL.out _ HB2.out)).mono ?_); rintro e w3 ⟨rfl, hw3⟩; have HB3 := Lib.hid (hstep HB2.out hw3); clear hw3))
    go_ret
    exact ⟨by rw [HV.out]; rfl, HB1.out⟩
  cases q2
  case true =>
    go_enter Tryz.func8, Tryz.ntmps8
    go_wp2_with (first
        | (go_at_call 23; (with_reducible refine (HRN.out _).mono ?_); rintro e w1 ⟨rfl, hw1⟩; have HX1 := hbox_next (World.alloc_heap_new w (.cells #[.string nm, .int .i64 k, .int .i64 d, .int .i64 c, .int .i64 m, .int .i64 l] 24)) hw1; have HB1 := Lib.hid (hstep (below_one_h w (.cells #[.string nm, .int .i64 k, .int .i64 d, .int .i64 c, .int .i64 m, .int .i64 l] 24)) hw1); go_loud (have a0 : w1.cell? ⟨w.heap.size, 0, none⟩ = some (.string nm) := (hbox_cell HX1 0).1; have a1 : w1.cell? ⟨w.heap.size, 1, none⟩ = some (.int .i64 k) := (hbox_cell HX1 1).1; have a2 : w1.cell? ⟨w.heap.size, 2, none⟩ = some (.int .i64 d) := (hbox_cell HX1 2).1; have a3 : w1.cell? ⟨w.heap.size, 3, none⟩ = some (.int .i64 c) := (hbox_cell HX1 3).1; have a4 : w1.cell? ⟨w.heap.size, 4, none⟩ = some (.int .i64 m) := (hbox_cell HX1 4).1; have a5 : w1.cell? ⟨w.heap.size, 5, none⟩ = some (.int .i64 l) := (hbox_cell HX1 5).1; have la := hbox_lt HX1); have HX1 := Lib.hid HX1; clear hw1)
        | (go_at_call 19; (with_reducible refine (HRK.out _).mono ?_); rintro e w9 ⟨rfl, hw9⟩; subst hw9)
        | (go_at_call 24; (with_reducible refine (HRD.out _).mono ?_); rintro e w9 ⟨rfl, hw9⟩; subst hw9)
        | (go_at_call 25; (with_reducible refine (HRC.out _).mono ?_); rintro e w2 ⟨rfl, hw2⟩; have HX2 := hbox_next HX1.out hw2; have HB2 := Lib.hid (hstep HB1.out hw2); go_loud (have b0 : w2.cell? ⟨w.heap.size, 0, none⟩ = some (.string nm) := (hbox_cell HX2 0).1; have b1 : w2.cell? ⟨w.heap.size, 1, none⟩ = some (.int .i64 k) := (hbox_cell HX2 1).1; have b2 : w2.cell? ⟨w.heap.size, 2, none⟩ = some (.int .i64 d) := (hbox_cell HX2 2).1; have b3 : w2.cell? ⟨w.heap.size, 3, none⟩ = some (.int .i64 c) := (hbox_cell HX2 3).1; have b4 : w2.cell? ⟨w.heap.size, 4, none⟩ = some (.int .i64 m) := (hbox_cell HX2 4).1; have b5 : w2.cell? ⟨w.heap.size, 5, none⟩ = some (.int .i64 l) := (hbox_cell HX2 5).1; have lb := hbox_lt HX2); have HX2 := Lib.hid HX2; clear hw2)
        | (go_at_call 21; (with_reducible refine (HRM.out _ (TK.out _ HB2.out)).mono ?_); rintro e w9 ⟨rfl, hw9⟩; subst hw9)
        | (go_at_call 26; (with_reducible refine (HRL.out _ (TL.out _ HB2.out)).mono ?_); rintro e w3 ⟨rfl, hw3⟩; have HB3 := Lib.hid (hstep HB2.out hw3); clear hw3))
    go_ret
    exact ⟨by rw [HV.out]; rfl, HB1.out⟩
  cases q3
  · skip
    go_enter Tryz.func8, Tryz.ntmps8
    go_wp2_with (first
        | (go_at_call 23; (with_reducible refine (HRN.out _).mono ?_); rintro e w1 ⟨rfl, hw1⟩; have HX1 := hbox_next (World.alloc_heap_new w (.cells #[.string nm, .int .i64 k, .int .i64 d, .int .i64 c, .int .i64 m, .int .i64 l] 24)) hw1; have HB1 := Lib.hid (hstep (below_one_h w (.cells #[.string nm, .int .i64 k, .int .i64 d, .int .i64 c, .int .i64 m, .int .i64 l] 24)) hw1); go_loud (have a0 : w1.cell? ⟨w.heap.size, 0, none⟩ = some (.string nm) := (hbox_cell HX1 0).1; have a1 : w1.cell? ⟨w.heap.size, 1, none⟩ = some (.int .i64 k) := (hbox_cell HX1 1).1; have a2 : w1.cell? ⟨w.heap.size, 2, none⟩ = some (.int .i64 d) := (hbox_cell HX1 2).1; have a3 : w1.cell? ⟨w.heap.size, 3, none⟩ = some (.int .i64 c) := (hbox_cell HX1 3).1; have a4 : w1.cell? ⟨w.heap.size, 4, none⟩ = some (.int .i64 m) := (hbox_cell HX1 4).1; have a5 : w1.cell? ⟨w.heap.size, 5, none⟩ = some (.int .i64 l) := (hbox_cell HX1 5).1; have la := hbox_lt HX1); have HX1 := Lib.hid HX1; clear hw1)
        | (go_at_call 19; (with_reducible refine (HRK.out _).mono ?_); rintro e w9 ⟨rfl, hw9⟩; subst hw9)
        | (go_at_call 24; (with_reducible refine (HRD.out _).mono ?_); rintro e w9 ⟨rfl, hw9⟩; subst hw9)
        | (go_at_call 25; (with_reducible refine (HRC.out _).mono ?_); rintro e w2 ⟨rfl, hw2⟩; have HX2 := hbox_next HX1.out hw2; have HB2 := Lib.hid (hstep HB1.out hw2); go_loud (have b0 : w2.cell? ⟨w.heap.size, 0, none⟩ = some (.string nm) := (hbox_cell HX2 0).1; have b1 : w2.cell? ⟨w.heap.size, 1, none⟩ = some (.int .i64 k) := (hbox_cell HX2 1).1; have b2 : w2.cell? ⟨w.heap.size, 2, none⟩ = some (.int .i64 d) := (hbox_cell HX2 2).1; have b3 : w2.cell? ⟨w.heap.size, 3, none⟩ = some (.int .i64 c) := (hbox_cell HX2 3).1; have b4 : w2.cell? ⟨w.heap.size, 4, none⟩ = some (.int .i64 m) := (hbox_cell HX2 4).1; have b5 : w2.cell? ⟨w.heap.size, 5, none⟩ = some (.int .i64 l) := (hbox_cell HX2 5).1; have lb := hbox_lt HX2); have HX2 := Lib.hid HX2; clear hw2)
        | (go_at_call 21; (with_reducible refine (HRM.out _ (TK.out _ HB2.out)).mono ?_); rintro e w9 ⟨rfl, hw9⟩; subst hw9)
        | (go_at_call 26; (with_reducible refine (HRL.out _ (TL.out _ HB2.out)).mono ?_); rintro e w3 ⟨rfl, hw3⟩; have HB3 := Lib.hid (hstep HB2.out hw3); clear hw3))
    go_ret
    exact ⟨by rw [HV.out]; rfl, HB1.out⟩
  cases q4
  · skip
    go_enter Tryz.func8, Tryz.ntmps8
    go_wp2_with (first
        | (go_at_call 23; (with_reducible refine (HRN.out _).mono ?_); rintro e w1 ⟨rfl, hw1⟩; have HX1 := hbox_next (World.alloc_heap_new w (.cells #[.string nm, .int .i64 k, .int .i64 d, .int .i64 c, .int .i64 m, .int .i64 l] 24)) hw1; have HB1 := Lib.hid (hstep (below_one_h w (.cells #[.string nm, .int .i64 k, .int .i64 d, .int .i64 c, .int .i64 m, .int .i64 l] 24)) hw1); go_loud (have a0 : w1.cell? ⟨w.heap.size, 0, none⟩ = some (.string nm) := (hbox_cell HX1 0).1; have a1 : w1.cell? ⟨w.heap.size, 1, none⟩ = some (.int .i64 k) := (hbox_cell HX1 1).1; have a2 : w1.cell? ⟨w.heap.size, 2, none⟩ = some (.int .i64 d) := (hbox_cell HX1 2).1; have a3 : w1.cell? ⟨w.heap.size, 3, none⟩ = some (.int .i64 c) := (hbox_cell HX1 3).1; have a4 : w1.cell? ⟨w.heap.size, 4, none⟩ = some (.int .i64 m) := (hbox_cell HX1 4).1; have a5 : w1.cell? ⟨w.heap.size, 5, none⟩ = some (.int .i64 l) := (hbox_cell HX1 5).1; have la := hbox_lt HX1); have HX1 := Lib.hid HX1; clear hw1)
        | (go_at_call 19; (with_reducible refine (HRK.out _).mono ?_); rintro e w9 ⟨rfl, hw9⟩; subst hw9)
        | (go_at_call 24; (with_reducible refine (HRD.out _).mono ?_); rintro e w9 ⟨rfl, hw9⟩; subst hw9)
        | (go_at_call 25; (with_reducible refine (HRC.out _).mono ?_); rintro e w2 ⟨rfl, hw2⟩; have HX2 := hbox_next HX1.out hw2; have HB2 := Lib.hid (hstep HB1.out hw2); go_loud (have b0 : w2.cell? ⟨w.heap.size, 0, none⟩ = some (.string nm) := (hbox_cell HX2 0).1; have b1 : w2.cell? ⟨w.heap.size, 1, none⟩ = some (.int .i64 k) := (hbox_cell HX2 1).1; have b2 : w2.cell? ⟨w.heap.size, 2, none⟩ = some (.int .i64 d) := (hbox_cell HX2 2).1; have b3 : w2.cell? ⟨w.heap.size, 3, none⟩ = some (.int .i64 c) := (hbox_cell HX2 3).1; have b4 : w2.cell? ⟨w.heap.size, 4, none⟩ = some (.int .i64 m) := (hbox_cell HX2 4).1; have b5 : w2.cell? ⟨w.heap.size, 5, none⟩ = some (.int .i64 l) := (hbox_cell HX2 5).1; have lb := hbox_lt HX2); have HX2 := Lib.hid HX2; clear hw2)
        | (go_at_call 21; (with_reducible refine (HRM.out _ (TK.out _ HB2.out)).mono ?_); rintro e w9 ⟨rfl, hw9⟩; subst hw9)
        | (go_at_call 26; (with_reducible refine (HRL.out _ (TL.out _ HB2.out)).mono ?_); rintro e w3 ⟨rfl, hw3⟩; have HB3 := Lib.hid (hstep HB2.out hw3); clear hw3))
    go_ret
    exact ⟨by rw [HV.out]; rfl, HB2.out⟩
  cases q5
  case true =>
    go_enter Tryz.func8, Tryz.ntmps8
    go_wp2_with (first
        | (go_at_call 23; (with_reducible refine (HRN.out _).mono ?_); rintro e w1 ⟨rfl, hw1⟩; have HX1 := hbox_next (World.alloc_heap_new w (.cells #[.string nm, .int .i64 k, .int .i64 d, .int .i64 c, .int .i64 m, .int .i64 l] 24)) hw1; have HB1 := Lib.hid (hstep (below_one_h w (.cells #[.string nm, .int .i64 k, .int .i64 d, .int .i64 c, .int .i64 m, .int .i64 l] 24)) hw1); go_loud (have a0 : w1.cell? ⟨w.heap.size, 0, none⟩ = some (.string nm) := (hbox_cell HX1 0).1; have a1 : w1.cell? ⟨w.heap.size, 1, none⟩ = some (.int .i64 k) := (hbox_cell HX1 1).1; have a2 : w1.cell? ⟨w.heap.size, 2, none⟩ = some (.int .i64 d) := (hbox_cell HX1 2).1; have a3 : w1.cell? ⟨w.heap.size, 3, none⟩ = some (.int .i64 c) := (hbox_cell HX1 3).1; have a4 : w1.cell? ⟨w.heap.size, 4, none⟩ = some (.int .i64 m) := (hbox_cell HX1 4).1; have a5 : w1.cell? ⟨w.heap.size, 5, none⟩ = some (.int .i64 l) := (hbox_cell HX1 5).1; have la := hbox_lt HX1); have HX1 := Lib.hid HX1; clear hw1)
        | (go_at_call 19; (with_reducible refine (HRK.out _).mono ?_); rintro e w9 ⟨rfl, hw9⟩; subst hw9)
        | (go_at_call 24; (with_reducible refine (HRD.out _).mono ?_); rintro e w9 ⟨rfl, hw9⟩; subst hw9)
        | (go_at_call 25; (with_reducible refine (HRC.out _).mono ?_); rintro e w2 ⟨rfl, hw2⟩; have HX2 := hbox_next HX1.out hw2; have HB2 := Lib.hid (hstep HB1.out hw2); go_loud (have b0 : w2.cell? ⟨w.heap.size, 0, none⟩ = some (.string nm) := (hbox_cell HX2 0).1; have b1 : w2.cell? ⟨w.heap.size, 1, none⟩ = some (.int .i64 k) := (hbox_cell HX2 1).1; have b2 : w2.cell? ⟨w.heap.size, 2, none⟩ = some (.int .i64 d) := (hbox_cell HX2 2).1; have b3 : w2.cell? ⟨w.heap.size, 3, none⟩ = some (.int .i64 c) := (hbox_cell HX2 3).1; have b4 : w2.cell? ⟨w.heap.size, 4, none⟩ = some (.int .i64 m) := (hbox_cell HX2 4).1; have b5 : w2.cell? ⟨w.heap.size, 5, none⟩ = some (.int .i64 l) := (hbox_cell HX2 5).1; have lb := hbox_lt HX2); have HX2 := Lib.hid HX2; clear hw2)
        | (go_at_call 21; (with_reducible refine (HRM.out _ (TK.out _ HB2.out)).mono ?_); rintro e w9 ⟨rfl, hw9⟩; subst hw9)
        | (go_at_call 26; (with_reducible refine (HRL.out _ (TL.out _ HB2.out)).mono ?_); rintro e w3 ⟨rfl, hw3⟩; have HB3 := Lib.hid (hstep HB2.out hw3); clear hw3))
    go_ret
    exact ⟨by rw [HV.out]; rfl, HB2.out⟩
  go_enter Tryz.func8, Tryz.ntmps8
  go_wp2_with (first
      | (go_at_call 23; (with_reducible refine (HRN.out _).mono ?_); rintro e w1 ⟨rfl, hw1⟩; have HX1 := hbox_next (World.alloc_heap_new w (.cells #[.string nm, .int .i64 k, .int .i64 d, .int .i64 c, .int .i64 m, .int .i64 l] 24)) hw1; have HB1 := Lib.hid (hstep (below_one_h w (.cells #[.string nm, .int .i64 k, .int .i64 d, .int .i64 c, .int .i64 m, .int .i64 l] 24)) hw1); go_loud (have a0 : w1.cell? ⟨w.heap.size, 0, none⟩ = some (.string nm) := (hbox_cell HX1 0).1; have a1 : w1.cell? ⟨w.heap.size, 1, none⟩ = some (.int .i64 k) := (hbox_cell HX1 1).1; have a2 : w1.cell? ⟨w.heap.size, 2, none⟩ = some (.int .i64 d) := (hbox_cell HX1 2).1; have a3 : w1.cell? ⟨w.heap.size, 3, none⟩ = some (.int .i64 c) := (hbox_cell HX1 3).1; have a4 : w1.cell? ⟨w.heap.size, 4, none⟩ = some (.int .i64 m) := (hbox_cell HX1 4).1; have a5 : w1.cell? ⟨w.heap.size, 5, none⟩ = some (.int .i64 l) := (hbox_cell HX1 5).1; have la := hbox_lt HX1); have HX1 := Lib.hid HX1; clear hw1)
      | (go_at_call 19; (with_reducible refine (HRK.out _).mono ?_); rintro e w9 ⟨rfl, hw9⟩; subst hw9)
      | (go_at_call 24; (with_reducible refine (HRD.out _).mono ?_); rintro e w9 ⟨rfl, hw9⟩; subst hw9)
      | (go_at_call 25; (with_reducible refine (HRC.out _).mono ?_); rintro e w2 ⟨rfl, hw2⟩; have HX2 := hbox_next HX1.out hw2; have HB2 := Lib.hid (hstep HB1.out hw2); go_loud (have b0 : w2.cell? ⟨w.heap.size, 0, none⟩ = some (.string nm) := (hbox_cell HX2 0).1; have b1 : w2.cell? ⟨w.heap.size, 1, none⟩ = some (.int .i64 k) := (hbox_cell HX2 1).1; have b2 : w2.cell? ⟨w.heap.size, 2, none⟩ = some (.int .i64 d) := (hbox_cell HX2 2).1; have b3 : w2.cell? ⟨w.heap.size, 3, none⟩ = some (.int .i64 c) := (hbox_cell HX2 3).1; have b4 : w2.cell? ⟨w.heap.size, 4, none⟩ = some (.int .i64 m) := (hbox_cell HX2 4).1; have b5 : w2.cell? ⟨w.heap.size, 5, none⟩ = some (.int .i64 l) := (hbox_cell HX2 5).1; have lb := hbox_lt HX2); have HX2 := Lib.hid HX2; clear hw2)
      | (go_at_call 21; (with_reducible refine (HRM.out _ (TK.out _ HB2.out)).mono ?_); rintro e w9 ⟨rfl, hw9⟩; subst hw9)
      | (go_at_call 26; (with_reducible refine (HRL.out _ (TL.out _ HB2.out)).mono ?_); rintro e w3 ⟨rfl, hw3⟩; have HB3 := Lib.hid (hstep HB2.out hw3); clear hw3))
  go_ret
  exact ⟨by rw [HV.out]; rfl, HB3.out⟩
#print axioms Tryz.hmay_calls
end Go.Proofs
