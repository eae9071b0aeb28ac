/- The law SheetFlat. Conditions: SheetC. -/
import Derived.Test.YtiedogcekalfjaaLawSheetRowsM
namespace Go.Sheet
open Go.Cur Go.Wds Go.Proofs Go.Fx
theorem flatE_len (s : ByteArray) : ∀ (l : List Rw) (n : Nat), (flatE s l n).1.length ≤ totW l
  | [], 0 => Nat.le_refl _
  | _ :: _, 0 => Nat.zero_le _
  | [], _ + 1 => Nat.zero_le _
  | p :: l, n + 1 => by
    have ih := flatE_len s l (n + 1 - p.2.length)
    rw [flatE]
    split
    · exact Nat.zero_le _
    · split
      · exact Nat.zero_le _
      · split
        · exact Nat.zero_le _
        · rw [List.length_append, List.length_map, totW]; omega
theorem totW_bd {m : Nat} : ∀ {l : List Rw}, (∀ p ∈ l, p.2.length ≤ m) → totW l ≤ l.length * m
  | [], _ => Nat.zero_le _
  | p :: l, h => by
    have h1 := h p (by simp)
    have h2 := totW_bd (m := m) (l := l) fun q hq => h q (by simp [hq])
    rw [totW, List.length_cons, Nat.succ_mul]; omega
end Go.Sheet
namespace Go.Proofs
open Go.RowKit Go.Shelf Go.Cur Go.Wds Go.Sheet Go.Fx
attribute [local go_sem] Oper.semAt_some
theorem Try.rFlat_any (s : ByteArray) (l : List Rw) (n : Int) (v : Value) (w : World) (hs : s.size ≤ 1000000) (hl : l.length ≤ 1000000) (ht : totW l ≤ 1000000) (hv : HasRows w v l) :
    Calls Try.prog 22 #[.string s, v, .int .i64 n] w fun e w' => ∃ u, e = .returned (.tuple #[u, .int .i64 ((flatE s l n.toNat).2.1 : Nat), .agg #[.int .i64 ((flatE s l n.toNat).2.2.1 : Nat), .int .i64 (flatE s l n.toNat).2.2.2]]) ∧ HasInts w' u (flatE s l n.toNat).1 ∧ Below w.heap.size w w' := by
  by_cases h : n ≤ 0
  · have e : n.toNat = 0 := by omega
    have e2 : flatE s l 0 = ([], 0, 0, 0) := by cases l <;> rfl
    rw [e, e2]
    exact Try.rFlat_none s l n v w hl h hv
  · obtain ⟨N, rfl⟩ : ∃ N : Nat, n = (N : Int) := ⟨n.toNat, by omega⟩
    rw [Int.toNat_natCast]
    exact Try.rFlat_some s l N v w hs hl ht (by omega) hv
set_option maxRecDepth 100000 in
set_option maxHeartbeats 8000000 in
theorem Try.SheetFlat_calls (H : Try.SheetC) (s : ByteArray) (k0 n : Int) (w : World) (hnn : n ≤ 9223372036854775807) : Calls Try.prog 5 #[.string s, .int .i64 k0, .int .i64 n] w fun e w' => e = .returned (.bool true) ∧ Below w.heap.size w w' := by
  have HSH := Lib.hid fun W => Try.shown13_calls H W
  by_cases h1 : s.size ≤ 500
  · have n1 : ¬ (500 : Int) < (s.size : Int) := by omega
    have HR := Lib.hid fun W => H.rows s k0 W (by omega)
    have HRR := Lib.hid fun W => Try.rSheetRows_calls s k0 W (by omega)
    have HL : Hid ((rowsE s k0).length ≤ 501) := Nat.le_trans (rowsE_len s k0) (by omega)
    have HPW : Hid (∀ p ∈ rowsE s k0, p.2.length ≤ 500) := fun p hp => Nat.le_trans (rowsE_words hp) h1
    have HTW : Hid (totW (rowsE s k0) ≤ 1000000) := Nat.le_trans (totW_bd HPW.out) (Nat.le_trans (Nat.mul_le_mul_right 500 HL.out) (by decide))
    have HIT : Hid (∀ v W, HasRows W v (rowsE s k0) → Calls Try.prog 12 #[v] W fun e w' => ∃ v', e = .returned v' ∧ HasRows w' v' (rowsE s k0) ∧ Below W.heap.size W w') := fun v W h => Try.sheetIts_calls v _ W (Nat.le_trans HL.out (by decide)) (fun p hp => Nat.le_trans (HPW.out p hp) (by decide)) h
    have HSM : Hid (∀ v u W, HasRows W v (rowsE s k0) → HasRows W u (rowsE s k0) → Calls Try.prog 11 #[v, u] W fun e w' => e = .returned (.bool true) ∧ Below W.heap.size W w') := fun v u W h h' => Try.rSheetSame_calls v u _ W (Nat.le_trans HL.out (by decide)) (fun p hp => Nat.le_trans (HPW.out p hp) (by decide)) h h'
    have HFL := Lib.hid fun u W h => H.flat s k0 n u W (by omega) hnn h
    have HFR := Lib.hid fun u W h => Try.rFlat_any s (rowsE s k0) n u W (by omega) (Nat.le_trans HL.out (by decide)) HTW.out h
    have HLE := Nat.le_trans (flatE_len s (rowsE s k0) n.toNat) HTW.out
    generalize rowsE s k0 = lr at *
    generalize flatE s lr n.toNat = R at *
    obtain ⟨X, i, a, c⟩ := R
    have HIN := Lib.hid fun v u W hv hu => Try.RInts_calls v u X X W (Nat.le_trans (m := 1000000) HLE (by decide)) hv hu
    simp only [decide_true] at HIN
    try simp only at HFL HFR
    clear h1 H HPW HTW HL HLE hnn
    go_enter Try.func5, Try.ntmps5
    go_wp2_with (first
      | (go_at_call 8; (with_reducible refine (HSH.out _).mono ?_); rintro e w1 ⟨rfl, hb1⟩; have HB1 := Lib.hid hb1; clear hb1)
      | (go_at_call 9; (with_reducible refine (HR.out _).mono ?_); rintro e w2 ⟨v2, rfl, hv2, hb2⟩; have HB2 := Lib.hid (HB1.out.trans (hb2.mono HB1.out.size)); have HV2 := Lib.hid hv2; obtain ⟨av2, cv2, rfl, _⟩ := hv2.dat; clear hb2 hv2)
      | (go_at_call 10; (with_reducible refine (HRR.out _).mono ?_); rintro e w3 ⟨v3, rfl, hv3, hb3⟩; have HB3 := Lib.hid (HB2.out.trans (hb3.mono HB2.out.size)); have HU2 := Lib.hid (HV2.out.later hb3); have HV3 := Lib.hid hv3; obtain ⟨av3, cv3, rfl, _⟩ := hv3.dat; clear hb3 hv3)
      | (go_at_call 12; (with_reducible refine (HIT.out _ _ HU2.out).mono ?_); rintro e w4 ⟨v4, rfl, hv4, hb4⟩; have HB4 := Lib.hid (HB3.out.trans (hb4.mono HB3.out.size)); have HX2 := Lib.hid (HU2.out.later hb4); have HX3 := Lib.hid (HV3.out.later hb4); have HV4 := Lib.hid hv4; obtain ⟨av4, cv4, rfl, _⟩ := hv4.dat; clear hb4 hv4)
      | (go_at_call 11; (with_reducible refine (HSM.out _ _ _ HV4.out HX3.out).mono ?_); rintro e w5 ⟨rfl, hb5⟩; have HB5 := Lib.hid (HB4.out.trans (hb5.mono HB4.out.size)); have HY2 := Lib.hid (HX2.out.later hb5); have HY3 := Lib.hid (HX3.out.later hb5); clear hb5)
      | (go_at_call 21; (with_reducible refine (HFL.out _ _ HY2.out).mono ?_); rintro e w6 ⟨v6, rfl, hv6, hb6⟩; have hbx := fbelow_box_s w6 (.cells #[.int .i64 (a : Nat), .int .i64 c] 41); have HB6 := Lib.hid ((HB5.out.trans (hb6.mono HB5.out.size)).trans (hbx.mono (HB5.out.trans (hb6.mono HB5.out.size)).size)); have HZ3 := Lib.hid ((HY3.out.later hb6).later hbx); have HI6 := Lib.hid (hv6.next hbx); have HD6 : Hid ((w6.alloc (.cells #[.int .i64 (a : Nat), .int .i64 c] 41)).heap[w6.heap.size]? = some (.cells #[.int .i64 (a : Nat), .int .i64 c] 41)) := World.alloc_heap_new _ _; obtain ⟨a6, c6, rfl⟩ := hv6.len; clear hb6 hv6 hbx)
      | (go_at_call 22; (with_reducible refine (HFR.out _ _ HZ3.out).mono ?_); rintro e w7 ⟨v7, rfl, hv7, hb7⟩; have hbx := fbelow_box_s w7 (.cells #[.int .i64 (a : Nat), .int .i64 c] 41); have HB7 := Lib.hid ((HB6.out.trans (hb7.mono HB6.out.size)).trans (hbx.mono (HB6.out.trans (hb7.mono HB6.out.size)).size)); have HI7 := Lib.hid (hv7.next hbx); have HJ6 := Lib.hid ((HI6.out.next hb7).next hbx); have HE6 : Hid ((w7.alloc (.cells #[.int .i64 (a : Nat), .int .i64 c] 41)).heap[w6.heap.size]? = some (.cells #[.int .i64 (a : Nat), .int .i64 c] 41)) := (hbx.block _ (Nat.lt_of_lt_of_le (Array.getElem?_eq_some_iff.1 HD6.out).1 hb7.size)).trans ((hb7.block _ (Array.getElem?_eq_some_iff.1 HD6.out).1).trans HD6.out); have HD7 : Hid ((w7.alloc (.cells #[.int .i64 (a : Nat), .int .i64 c] 41)).heap[w7.heap.size]? = some (.cells #[.int .i64 (a : Nat), .int .i64 c] 41)) := World.alloc_heap_new _ _; obtain ⟨a7, c7, rfl⟩ := hv7.len; clear hb7 hv7 hbx))
    refine (HIN.out _ _ _ HJ6.out HI7.out).mono ?_
    rintro e w8 ⟨rfl, hb8⟩
    have HB8 := Lib.hid (HB7.out.trans (hb8.mono HB7.out.size))
    have hE6 := (hb8.block _ (Array.getElem?_eq_some_iff.1 HE6.out).1).trans HE6.out
    have hD7 := (hb8.block _ (Array.getElem?_eq_some_iff.1 HD7.out).1).trans HD7.out
    have p0 : w8.cell? ⟨w6.heap.size, 0, none⟩ = some (.int .i64 (a : Nat)) := by (unfold World.cell?; rw [hE6]; rfl)
    have p1 : w8.cell? ⟨w6.heap.size, 1, none⟩ = some (.int .i64 c) := by (unfold World.cell?; rw [hE6]; rfl)
    have q0 : w8.cell? ⟨w7.heap.size, 0, none⟩ = some (.int .i64 (a : Nat)) := by (unfold World.cell?; rw [hD7]; rfl)
    have q1 : w8.cell? ⟨w7.heap.size, 1, none⟩ = some (.int .i64 c) := by (unfold World.cell?; rw [hD7]; rfl)
    clear hb8 hE6 hD7
    go_wp2
    go_ret
    exact ⟨by simp, HB8.out⟩
  · have n1 : (500 : Int) < (s.size : Int) := by omega
    clear h1 H
    go_enter Try.func5, Try.ntmps5
    go_wp2_with (go_at_call 8; (with_reducible refine (HSH.out _).mono ?_); rintro e w1 ⟨rfl, hb1⟩)
    go_ret
    exact ⟨rfl, hb1⟩
end Go.Proofs
