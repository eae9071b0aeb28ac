/- The law SheetNumbers. Conditions: SheetC. -/
import Derived.Test.YtiedogcekalfjaaLawSheetFlatM
namespace Go.Sheet
open Go.Cur Go.Wds Go.Proofs Go.Fx
theorem takeW_len {α : Type} (rd : Nat × Nat → α × Int) (l : List (Nat × Nat)) : (takeW rd l).1.length ≤ l.length := by
  unfold takeW
  split
  · exact Nat.zero_le _
  · rw [List.length_map]; exact Nat.le_refl _
theorem intsE_len (s : ByteArray) (p : Rw) (n : Int) : (intsE s p n).1.length ≤ p.2.length := by
  unfold intsE
  split
  · exact takeW_len _ _
  · exact Nat.zero_le _
theorem numsE_len (s : ByteArray) (p : Rw) (n : Int) : (numsE s p n).1.length ≤ p.2.length := by
  unfold numsE
  exact Nat.le_trans (takeW_len _ _) (by rw [List.length_drop]; omega)
end Go.Sheet
namespace Go.Proofs
open Go.RowKit Go.Shelf Go.Cur Go.Wds Go.Sheet Go.Fx
attribute [local go_sem] Oper.semAt_some
theorem Try.rInts_any (s : ByteArray) (p : Rw) (n : Int) (v : Value) (w : World) (hs : s.size ≤ 1000000) (hl : p.2.length ≤ 1000000) (hv : HasWords w v p.2) :
    Calls Try.prog 16 #[.string s, .agg #[.int .i64 (p.1 : Nat), v], .int .i64 n] w fun e w' => ∃ u, e = .returned (.tuple #[u, .agg #[.int .i64 ((intsE s p n).2.1 : Nat), .int .i64 (intsE s p n).2.2]]) ∧ HasInts w' u (intsE s p n).1 ∧ Below w.heap.size w w' := by
  by_cases h : (p.2.length : Int) = n
  · have e : intsE s p n = takeW (rdI s) p.2 := by unfold intsE; rw [if_pos h]
    rw [e, ← h]
    exact Try.rInts_all s p.1 p.2 v w hs hl hv
  · have e : intsE s p n = ([], p.1, 3) := by unfold intsE; rw [if_neg h]
    rw [e]
    exact (Try.rInts_line s p.1 p.2 n v w hv h).mono fun e w' ⟨h1, h2⟩ => ⟨_, h1, HasInts.nil _, h2⟩
/-- The box of a Diag. -/
def DgX (B : Nat) (a : Nat) (c : Int) (W : World) : Prop := W.heap[B]? = some (.cells #[.int .i64 (a : Nat), .int .i64 c] 41)
theorem DgX.next {B a : Nat} {c : Int} {W W' : World} (h : DgX B a c W) (hb : Below W.heap.size W W') : DgX B a c W' := (hb.block _ (Array.getElem?_eq_some_iff.1 h).1).trans h
theorem DgX.new (W : World) (a : Nat) (c : Int) : DgX W.heap.size a c (W.alloc (.cells #[.int .i64 (a : Nat), .int .i64 c] 41)) := World.alloc_heap_new _ _
theorem DgX.cells {B a : Nat} {c : Int} {W : World} (h : DgX B a c W) : W.cell? ⟨B, 0, none⟩ = some (.int .i64 (a : Nat)) ∧ W.cell? ⟨B, 1, none⟩ = some (.int .i64 c) := by
  unfold DgX at h
  refine ⟨?_, ?_⟩
  · unfold World.cell?; rw [h]; rfl
  · unfold World.cell?; rw [h]; rfl
set_option maxRecDepth 100000 in
set_option maxHeartbeats 8000000 in
theorem Try.SheetNumbers_calls (H : Try.SheetC) (s : ByteArray) (n sk : Int) (w : World) : Calls Try.prog 4 #[.string s, .int .i64 n, .int .i64 sk] w fun e w' => e = .returned (.bool true) ∧ Below w.heap.size w w' := by
  have HSH := Lib.hid fun W => Try.shown13_calls H W
  by_cases h1 : s.size ≤ 500
  · have n1 : ¬ (500 : Int) < (s.size : Int) := by omega
    have HR := Lib.hid fun W => H.rows s 0 W (by omega)
    have HRR := Lib.hid fun W => Try.rSheetRows_calls s 0 W (by omega)
    have HL : Hid ((rowsE s 0).length ≤ 501) := Nat.le_trans (rowsE_len s 0) (by omega)
    have HPW : Hid (∀ p ∈ rowsE s 0, p.2.length ≤ 500) := fun p hp => Nat.le_trans (rowsE_words hp) h1
    have HIT : Hid (∀ v W, HasRows W v (rowsE s 0) → Calls Try.prog 12 #[v] W fun e w' => ∃ v', e = .returned v' ∧ HasRows w' v' (rowsE s 0) ∧ Below W.heap.size W w') := fun v W h => Try.sheetIts_calls v _ W (Nat.le_trans HL.out (by decide)) (fun p hp => Nat.le_trans (HPW.out p hp) (by decide)) h
    have HSM : Hid (∀ v u W, HasRows W v (rowsE s 0) → HasRows W u (rowsE s 0) → Calls Try.prog 11 #[v, u] W fun e w' => e = .returned (.bool true) ∧ Below W.heap.size W w') := fun v u W h h' => Try.rSheetSame_calls v u _ W (Nat.le_trans HL.out (by decide)) (fun p hp => Nat.le_trans (HPW.out p hp) (by decide)) h h'
    have HI1 := Lib.hid fun p u W hp hw => H.ints s 0 p n u W (by omega) hp hw
    have HI2 := Lib.hid fun (p : Rw) u W (hp : p ∈ rowsE s 0) hw => Try.rInts_any s p n u W (by omega) (Nat.le_trans (HPW.out p hp) (by decide)) hw
    have HN1 := Lib.hid fun p u W hp hw => H.nums s 0 p sk u W (by omega) hp hw
    have HN2 := Lib.hid fun (p : Rw) u W (hp : p ∈ rowsE s 0) hw => Try.rNums_calls s p.1 p.2 sk u W (by omega) (Nat.le_trans (HPW.out p hp) (by decide)) hw
    have HQ1 := Lib.hid fun p v u W (hp : p ∈ rowsE s 0) hv hu => Try.RInts_calls v u (intsE s p n).1 (intsE s p n).1 W (Nat.le_trans (intsE_len s p n) (Nat.le_trans (HPW.out p hp) (by decide))) hv hu
    have HQ2 := Lib.hid fun p v u W (hp : p ∈ rowsE s 0) hv hu => Try.sheetNums_calls v u (numsE s p sk).1 W (Nat.le_trans (numsE_len s p sk) (Nat.le_trans (HPW.out p hp) (by decide))) hv hu
    simp only [decide_true] at HQ1
    clear h1 H HPW
    generalize rowsE s 0 = l at *
    obtain ⟨m, hn⟩ : ∃ m, l.length = m := ⟨_, rfl⟩
    have HN := Lib.hid hn
    have hl := HL.out
    rw [hn] at hl
    clear hn HL
    go_enter Try.func4, Try.ntmps4
    go_wp2_with (first
      | (go_at_call 8; (with_reducible refine (HSH.out _).mono ?_); rintro e w1 ⟨rfl, hb1⟩; have HB1 := Lib.hid hb1; clear hb1)
      | (go_at_call 9; (with_reducible refine (HR.out _).mono ?_); rintro e w2 ⟨v2, rfl, hv2, hb2⟩; have HB2 := Lib.hid (HB1.out.trans (hb2.mono HB1.out.size)); have HV2 := Lib.hid hv2; obtain ⟨av2, cv2, rfl, _⟩ := hv2.dat; rw [HN.out] at HV2 ⊢; clear hb2 hv2)
      | (go_at_call 10; (with_reducible refine (HRR.out _).mono ?_); rintro e w3 ⟨v3, rfl, hv3, hb3⟩; have HB3 := Lib.hid (HB2.out.trans (hb3.mono HB2.out.size)); have HU2 := Lib.hid (HV2.out.later hb3); have HV3 := Lib.hid hv3; obtain ⟨av3, cv3, rfl, _⟩ := hv3.dat; rw [HN.out] at HV3 ⊢; clear hb3 hv3)
      | (go_at_call 12; (with_reducible refine (HIT.out _ _ HU2.out).mono ?_); rintro e w4 ⟨v4, rfl, hv4, hb4⟩; have HB4 := Lib.hid (HB3.out.trans (hb4.mono HB3.out.size)); have HX2 := Lib.hid (HU2.out.later hb4); have HX3 := Lib.hid (HV3.out.later hb4); have HV4 := Lib.hid hv4; obtain ⟨av4, cv4, rfl, _⟩ := hv4.dat; rw [HN.out] at HV4 ⊢; clear hb4 hv4)
      | (go_at_call 11; (with_reducible refine (HSM.out _ _ _ HV4.out HX3.out).mono ?_); rintro e w5 ⟨rfl, hb5⟩; have HB5 := Lib.hid (HB4.out.trans (hb5.mono HB4.out.size)); have HY2 := Lib.hid (HX2.out.later hb5); have HY3 := Lib.hid (HX3.out.later hb5); clear hb5))
    clear HV2 HU2 HX2 HV3 HX3 HV4
    go_loopw [9] (fun i wr => ∃ k : Nat, k ≤ m ∧ i = .int .i64 (k : Int) ∧ Below w5.heap.size w5 wr) (fun i _ => m - (intOf i).toNat)
    case atStart => exact ⟨0, Nat.zero_le _, rfl, Below.refl _ _⟩
    case round =>
      obtain ⟨k, hk, rfl, hB⟩ := hrel
      by_cases hlt : k < m
      · obtain ⟨⟨f, P⟩, hp⟩ : ∃ q, l[k]? = some q := ⟨_, List.getElem?_eq_getElem (by have := HN.out; omega)⟩
        have hne : l ≠ [] := fun e => by rw [e] at hp; simp at hp
        obtain ⟨ao2, co2, e2, hd2⟩ := HY2.out.dat
        obtain ⟨ao3, co3, e3, hd3⟩ := HY3.out.dat
        rw [HN.out] at e2 e3
        cases e2; cases e3
        obtain ⟨g, rfl, hg, h1⟩ := hd2.resolve_left hne
        obtain ⟨h, rfl, hh, h2⟩ := hd3.resolve_left hne
        obtain ⟨x0, u1, x1, w1'⟩ := h1 k _ hp
        obtain ⟨y0, u2, y1, w2'⟩ := h2 k _ hp
        have HW1 := Lib.hid w1'
        have HW2 := Lib.hid w2'
        obtain ⟨a1, c1, rfl, _⟩ := w1'
        obtain ⟨a2, c2, rfl, _⟩ := w2'
        have hmem := List.mem_of_getElem? hp
        have HC1 := Lib.hid fun W (hW : Below w5.heap.size w5 W) => HI1.out (f, P) _ W hmem (HW1.out.later hW)
        have HC2 := Lib.hid fun W (hW : Below w5.heap.size w5 W) => HI2.out (f, P) _ W hmem (HW2.out.later hW)
        have HC3 := Lib.hid fun W (hW : Below w5.heap.size w5 W) => HN1.out (f, P) _ W hmem (HW1.out.later hW)
        have HC4 := Lib.hid fun W (hW : Below w5.heap.size w5 W) => HN2.out (f, P) _ W hmem (HW2.out.later hW)
        have HC5 := Lib.hid fun v u W hv hu => HQ1.out (f, P) v u W hmem hv hu
        have HC6 := Lib.hid fun v u W hv hu => HQ2.out (f, P) v u W hmem hv hu
        have HNE : Hid (takeW (rdR s) (P.drop sk.toNat) = numsE s (f, P) sk) := rfl
        simp only [HNE.out] at HC4
        generalize intsE s (f, P) n = R1 at *
        generalize numsE s (f, P) sk = R2 at *
        obtain ⟨L1, at1, cd1⟩ := R1
        obtain ⟨L2, at2, cd2⟩ := R2
        try simp only at HC1 HC2 HC3 HC4 HC5 HC6
        have HKC : Hid (∀ V, Below w5.heap.size w5 V → V.cell? ⟨g, k * 2, none⟩ = some (.int .i64 (f : Nat)) ∧ V.cell? ⟨g, k * 2 + 1, none⟩ = some (.slice a1 P.length c1) ∧ V.cell? ⟨h, k * 2, none⟩ = some (.int .i64 (f : Nat)) ∧ V.cell? ⟨h, k * 2 + 1, none⟩ = some (.slice a2 P.length c2)) := fun V hV => ⟨(hV.cell (p := ⟨g, _, none⟩) hg).trans x0, (hV.cell (p := ⟨g, _, none⟩) hg).trans x1, (hV.cell (p := ⟨h, _, none⟩) hh).trans y0, (hV.cell (p := ⟨h, _, none⟩) hh).trans y1⟩
        have hki : (k : Int) < (m : Int) := by omega
        have HB := Lib.hid hB
        obtain ⟨e0, e1, e2, e3⟩ := HKC.out _ hB
        clear hp hne h1 h2 x0 x1 y0 y1 HW1 HW2 hmem hd2 hd3 hB HI1 HI2 HN1 HN2 HQ1 HQ2 HNE
        go_wp2_with (first
          | (go_at_call 15; refine (HC1.out _ HB.out).mono ?_; rintro e w6 ⟨v6, rfl, hv6, hb6⟩; have hbx := fbelow_box_s w6 (.cells #[.int .i64 (at1 : Nat), .int .i64 cd1] 41); have hB6 := (HB.out.trans (hb6.mono HB.out.size)).trans (hbx.mono (HB.out.trans (hb6.mono HB.out.size)).size); have HB6 := Lib.hid hB6; have HI6 := Lib.hid (hv6.next hbx); have HD6 := Lib.hid (DgX.new w6 at1 cd1); clear e0 e1 e2 e3; obtain ⟨e0, e1, e2, e3⟩ := HKC.out _ hB6; obtain ⟨a6, c6, rfl⟩ := hv6.len; clear hb6 hv6 hbx hB6)
          | (go_at_call 16; refine (HC2.out _ HB6.out).mono ?_; rintro e w7 ⟨v7, rfl, hv7, hb7⟩; have hbx := fbelow_box_s w7 (.cells #[.int .i64 (at1 : Nat), .int .i64 cd1] 41); have hB7 := (HB6.out.trans (hb7.mono HB6.out.size)).trans (hbx.mono (HB6.out.trans (hb7.mono HB6.out.size)).size); have HB7 := Lib.hid hB7; have HI7 := Lib.hid (hv7.next hbx); have HJ6 := Lib.hid ((HI6.out.next hb7).next hbx); have HE6 := Lib.hid ((HD6.out.next hb7).next hbx); have HD7 := Lib.hid (DgX.new w7 at1 cd1); clear e0 e1 e2 e3; obtain ⟨e0, e1, e2, e3⟩ := HKC.out _ hB7; obtain ⟨a7, c7, rfl⟩ := hv7.len; clear hb7 hv7 hbx hB7)
          | (go_at_call 17; refine (HC3.out _ HB7.out).mono ?_; rintro e w8 ⟨v8, rfl, hv8, hb8⟩; have hbx := fbelow_box_s w8 (.cells #[.int .i64 (at2 : Nat), .int .i64 cd2] 41); have hB8 := (HB7.out.trans (hb8.mono HB7.out.size)).trans (hbx.mono (HB7.out.trans (hb8.mono HB7.out.size)).size); have HB8 := Lib.hid hB8; have HI8 := Lib.hid (hv8.later hbx); have HK6 := Lib.hid ((HJ6.out.next hb8).next hbx); have HK7 := Lib.hid ((HI7.out.next hb8).next hbx); have HF6 := Lib.hid ((HE6.out.next hb8).next hbx); have HF7 := Lib.hid ((HD7.out.next hb8).next hbx); have HD8 := Lib.hid (DgX.new w8 at2 cd2); clear e0 e1 e2 e3; obtain ⟨e0, e1, e2, e3⟩ := HKC.out _ hB8; obtain ⟨a8, c8, rfl, _⟩ := hv8.dat; clear hb8 hv8 hbx hB8)
          | (go_at_call 18; refine (HC4.out _ HB8.out).mono ?_; rintro e w9 ⟨v9, rfl, hv9, hb9⟩; have hbx := fbelow_box_s w9 (.cells #[.int .i64 (at2 : Nat), .int .i64 cd2] 41); have hB9 := (HB8.out.trans (hb9.mono HB8.out.size)).trans (hbx.mono (HB8.out.trans (hb9.mono HB8.out.size)).size); have HB9 := Lib.hid hB9; have HI9 := Lib.hid (hv9.later hbx); have HM6 := Lib.hid ((HK6.out.next hb9).next hbx); have HM7 := Lib.hid ((HK7.out.next hb9).next hbx); have HM8 := Lib.hid ((HI8.out.later hb9).later hbx); have HG6 := Lib.hid ((HF6.out.next hb9).next hbx); have HG7 := Lib.hid ((HF7.out.next hb9).next hbx); have HG8 := Lib.hid ((HD8.out.next hb9).next hbx); have HD9 := Lib.hid (DgX.new w9 at2 cd2); clear e0 e1 e2 e3; obtain ⟨a9, c9, rfl, _⟩ := hv9.dat; clear hb9 hv9 hbx hB9)
          | (go_at_call 19; refine (HC5.out _ _ _ HM6.out HM7.out).mono ?_; rintro e w10 ⟨rfl, hb10⟩; have HB10 := Lib.hid (HB9.out.trans (hb10.mono HB9.out.size)); obtain ⟨p0, p1⟩ := (HG6.out.next hb10).cells; obtain ⟨q0, q1⟩ := (HG7.out.next hb10).cells; have HN8 := Lib.hid (HM8.out.later hb10); have HN9 := Lib.hid (HI9.out.later hb10); have HH8 := Lib.hid (HG8.out.next hb10); have HH9 := Lib.hid (HD9.out.next hb10); clear hb10)
          | (go_at_call 20; refine (HC6.out _ _ _ HN8.out HN9.out).mono ?_; rintro e w11 ⟨rfl, hb11⟩; have HB11 := Lib.hid (HB10.out.trans (hb11.mono HB10.out.size)); clear p0 p1 q0 q1; obtain ⟨p0, p1⟩ := (HH8.out.next hb11).cells; obtain ⟨q0, q1⟩ := (HH9.out.next hb11).cells; clear hb11))
        go_roundw
        case rel => exact ⟨k + 1, by omega, by go_num, HB11.out⟩
        case measure => simp [intOf]; omega
      · obtain rfl : k = m := by omega
        clear hlt hk
        go_wp2
        go_ret
        exact ⟨rfl, HB5.out.trans (hB.mono HB5.out.size)⟩
  · have n1 : (500 : Int) < (s.size : Int) := by omega
    clear h1 H
    go_enter Try.func4, Try.ntmps4
    go_wp2_with (go_at_call 8; (with_reducible refine (HSH.out _).mono ?_); rintro e w1 ⟨rfl, hb1⟩)
    go_ret
    exact ⟨rfl, hb1⟩
end Go.Proofs
