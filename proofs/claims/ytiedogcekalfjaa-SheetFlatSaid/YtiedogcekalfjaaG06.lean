/- The document's Read. Conditions: a text of at most 1000000 bytes. -/
import Derived.Test.YtiedogcekalfjaaG05
import Derived.Deep.DeepCutAuto
namespace Go.Fx
/-- Where the first point stands, or the text's end, from place k on. -/
def pt (l : List UInt8) (k : Nat) : Nat := k + ((l.drop k).takeWhile (· != 46)).length
theorem pt_end (l : List UInt8) : pt l l.length = l.length := by simp [pt]
theorem pt_hit {l : List UInt8} {k : Nat} (h : l[k]? = some 46) : pt l k = k := by
  obtain ⟨hk, he⟩ := List.getElem?_eq_some_iff.1 h
  unfold pt
  rw [List.drop_eq_getElem_cons hk, he]
  simp
theorem pt_miss {l : List UInt8} {k : Nat} {c : UInt8} (h : l[k]? = some c) (hc : c ≠ 46) : pt l k = pt l (k + 1) := by
  obtain ⟨hk, he⟩ := List.getElem?_eq_some_iff.1 h
  unfold pt
  rw [List.drop_eq_getElem_cons hk, he, List.takeWhile_cons]
  simp [hc]
  omega
theorem pt_le {l : List UInt8} {k : Nat} (h : k ≤ l.length) : pt l k ≤ l.length := by
  unfold pt
  have := (List.takeWhile_prefix (· != 46) (l := l.drop k)).length_le
  rw [List.length_drop] at this
  omega
/-- A number that may be too great. -/
def chkL (x : Int × Nat) : Int × Nat × Int := if fitB x.1 = true then (x.1, x.2, 0) else (0, 0, 2)
/-- The document's Read of a text without its sign. -/
def readT (g : Int) (l : List UInt8) : Int × Nat × Int :=
  if (digR (l.take (pt l 0)) 12).2 = true then
    if pt l 0 < l.length then
      if (digR (l.drop (pt l 0 + 1)) 6).2 = true then
        chkL (least (l.length - pt l 0 - 1) (g * ((digR (l.take (pt l 0)) 12).1 * p10 ((l.length : Int) - (pt l 0 : Nat) - 1) + (digR (l.drop (pt l 0 + 1)) 6).1)))
      else (0, 0, 20)
    else chkL (least 0 (g * (digR (l.take (pt l 0)) 12).1))
  else (0, 0, 20)
end Go.Fx
namespace Go.Proofs
open Go.RowKit Go.Fx
attribute [local go_sem] Oper.semAt_some

theorem ret_read {a k : Int} {b : Nat} {x : Int × Nat × Int} (h : x = (a, b, k)) : Ending.returned (.tuple #[.agg #[.int .i64 a, .int .i64 (b : Int)], .int .i64 k]) = .returned (.tuple #[.agg #[.int .i64 x.1, .int .i64 (x.2.1 : Int)], .int .i64 x.2.2]) := by rw [h]
/-- What the document's Read and Int take for the text's sign, and its rest. -/
def Head (s T : ByteArray) (g : Int) : Prop := (∃ h0 : 0 < s.size, s[0] = 45 ∧ T = s.extract 1 s.size ∧ g = -1) ∨ (∃ h0 : 0 < s.size, s[0] ≠ 45 ∧ T = s ∧ g = 1) ∨ (s = ⟨#[]⟩ ∧ T = s ∧ g = 1)

theorem cells_past {w1 : World} {n : Nat} (hz : n < w1.heap.size) {u v : Value} (c0 : w1.cell? ⟨n, 0, none⟩ = some u) (c1 : w1.cell? ⟨n, 1, none⟩ = some v) (x y : Value) (o : Obj) :
    (((w1.setCell ⟨n, 0, none⟩ x).setCell ⟨n, 1, none⟩ y).alloc o).cell? ⟨n, 0, none⟩ = some x ∧ (((w1.setCell ⟨n, 0, none⟩ x).setCell ⟨n, 1, none⟩ y).alloc o).cell? ⟨n, 1, none⟩ = some y := by
  have hz' : n < ((w1.setCell ⟨n, 0, none⟩ x).setCell ⟨n, 1, none⟩ y).heap.size := by simp [World.setCell]; omega
  constructor
  · rw [World.cell?_of_block (w := (w1.setCell ⟨n, 0, none⟩ x).setCell ⟨n, 1, none⟩ y) (a := ⟨n, 0, none⟩) (Below.heap_alloc _ _ _ hz')]; simp [go_sem, c0]
  · rw [World.cell?_of_block (w := (w1.setCell ⟨n, 0, none⟩ x).setCell ⟨n, 1, none⟩ y) (a := ⟨n, 1, none⟩) (Below.heap_alloc _ _ _ hz')]; simp [go_sem, c1]

set_option maxRecDepth 100000 in
set_option maxHeartbeats 1000000 in
theorem Try.rRead_none (s T : ByteArray) (g : Int) (hH : Head s T g) (hs : s.size ≤ 1000000) (hT : T.size ≤ 1000000) (p : Nat) (HP : Hid (p = pt T.data.toList 0)) (hpl : p ≤ T.size) (n1 : Int) (G1 : Hid (∀ W, Calls Try.prog 63 #[.string (T.extract 0 p), .int .i64 12] W fun e w' => e = .returned (.tuple #[.int .i64 n1, .bool false]) ∧ W = w')) (w : World) :
    Calls Try.prog 40 #[.string s] w fun e w' => e = .returned (.tuple #[.agg #[.int .i64 0, .int .i64 0], .int .i64 20]) ∧ Below w.heap.size w w' := by
  have HH := Lib.hid hH
  clear hH
  obtain ⟨B, hB⟩ : ∃ B : Bool, (B = true ∧ 0 < s.size ∧ T = s.extract 1 s.size ∧ g = -1 ∧ ∃ h0 : 0 < s.size, s[0] = 45) ∨ (B = false ∧ T = s ∧ g = 1 ∧ ((∃ h0 : 0 < s.size, s[0] ≠ 45) ∨ s = ⟨#[]⟩)) := by
    rcases HH.out with ⟨h0, a, b, c⟩ | ⟨h0, a, b, c⟩ | ⟨a, b, c⟩
    · exact ⟨true, .inl ⟨rfl, h0, b, c, h0, a⟩⟩
    · exact ⟨false, .inr ⟨rfl, b, c, .inl ⟨h0, a⟩⟩⟩
    · exact ⟨false, .inr ⟨rfl, b, c, .inr a⟩⟩
  have HB := Lib.hid hB
  clear hB
  go_enter Try.func40, Try.ntmps40
  go_upto_region 2 with (fail)
  go_cut [19] (fun s19 wx => s19 = .bool B ∧ wx = w.alloc (.cells #[.int .i64 0, .int .i64 0] 59))
  case first =>
    rcases HB.out with ⟨b1, b2, -, -, _, b3⟩ | ⟨b1, -, -, ⟨b2, b3⟩ | b3⟩
    · subst b1
      have h1 := fxnot_empty s b2
      have h2 : ((s[0].toNat : Int) == 45) = true := by rw [b3]; rfl
      clear HB HH b3
      go_wp2_with (fail)
      go_meet
      exact ⟨rfl, rfl⟩
    · subst b1
      have h1 := fxnot_empty s b2
      have h2 : ((s[0].toNat : Int) == 45) = false := by
        apply beq_eq_false_iff_ne.2
        intro e
        exact b3 (UInt8.toNat_inj.1 (by show s[0].toNat = 45; omega))
      clear HB HH b3
      go_wp2_with (fail)
      go_meet
      exact ⟨rfl, rfl⟩
    · subst b1
      clear HB HH
      subst b3
      go_wp2_with (fail)
      go_meet
      exact ⟨rfl, rfl⟩
  case rest =>
  obtain ⟨rfl, rfl⟩ := hcut
  go_upto_if 19 with (fail)
  go_cut [0, 4] (fun s0 s4 wx => s0 = .string T ∧ s4 = .int .i64 g ∧ wx = w.alloc (.cells #[.int .i64 0, .int .i64 0] 59))
  case first =>
    rcases HB.out with ⟨b1, b2, b4, b5, -⟩ | ⟨b1, b4, b5, -⟩
    · subst b1
      have B4 := Lib.hid b4
      have B5 := Lib.hid b5
      clear HB HH b4 b5
      go_wp2_with (fail)
      go_meet
      exact ⟨by rw [B4.out], by rw [B5.out], rfl⟩
    · subst b1
      have B4 := Lib.hid b4
      have B5 := Lib.hid b5
      clear HB HH b4 b5
      go_wp2_with (fail)
      go_meet
      exact ⟨by rw [B4.out], by rw [B5.out], rfl⟩
  case rest =>
  obtain ⟨rfl, rfl, rfl⟩ := hcut
  clear HB HH
  go_wp2
  go_loop [5, 6] (fun v i => ∃ k : Nat, k ≤ T.size ∧ i = .int .i64 ((k : Int) - 1) ∧ v = .int .i64 (pt T.data.toList k : Nat)) (fun _ i => (intOf i + 1).toNat)
  case atStart => exact ⟨T.size, Nat.le_refl _, rfl, by rw [show T.size = T.data.toList.length from Array.length_toList.symm, pt_end]⟩
  case round =>
    obtain ⟨k, hk, rfl, rfl⟩ := hrel
    by_cases hk0 : 0 < k
    · obtain ⟨j, rfl⟩ : ∃ j, k = j + 1 := ⟨k - 1, by omega⟩
      have hlt : j < T.size := by omega
      have hget : T.data.toList[j]? = some T[j] := by
        have h' : j < T.data.toList.length := by simpa using hlt
        rw [List.getElem?_eq_getElem h']; rfl
      rw [show ((j + 1 : Nat) : Int) - 1 = (j : Int) from by omega]
      obtain ⟨q, hq⟩ : ∃ q, q = pt T.data.toList (j + 1) := ⟨_, rfl⟩
      rw [← hq]
      by_cases hc : T[j] = 46
      · have HP : Hid (pt T.data.toList j = j) := by rw [hc] at hget; exact pt_hit hget
        have hc' : ((T[j].toNat : Int) == 46) = true := by rw [hc]; rfl
        clear hc hget hq
        go_wp2
        go_round
        case rel => exact ⟨j, by omega, rfl, by rw [HP.out]⟩
        case measure => simp [intOf]
      · have HP : Hid (pt T.data.toList j = q) := by rw [hq]; exact pt_miss hget hc
        have hc' : ((T[j].toNat : Int) == 46) = false := beq_eq_false_iff_ne.2 (fun e => hc (UInt8.toNat_inj.1 (by show T[j].toNat = 46; omega)))
        clear hc hget hq
        go_wp2
        go_round
        case rel => exact ⟨j, by omega, rfl, by rw [HP.out]⟩
        case measure => simp [intOf]
    · obtain rfl : k = 0 := by omega
      rw [show ((0 : Nat) : Int) - 1 = (-1 : Int) from rfl]
      rw [show pt T.data.toList 0 = p from HP.out.symm]
      clear hk hk0
      go_wp2_with (go_at_call 63; (with_reducible refine (G1.out _).mono ?_); rintro e w1 ⟨rfl, rfl⟩)
      refine bodyPost_ret (v := .tuple #[.agg #[.int .i64 0, .int .i64 0], .int .i64 20]) (by simp [results, Try.results40, go_sem]) rfl ⟨rfl, ?_⟩
      exact (Below.refl _ w).alloc (Nat.le_refl _) _

set_option maxRecDepth 100000 in
set_option maxHeartbeats 1000000 in
theorem Try.rRead_tail (s T : ByteArray) (g : Int) (hH : Head s T g) (hs : s.size ≤ 1000000) (hT : T.size ≤ 1000000) (p : Nat) (HP : Hid (p = pt T.data.toList 0)) (hpl : p ≤ T.size) (n1 : Int) (G1 : Hid (∀ W, Calls Try.prog 63 #[.string (T.extract 0 p), .int .i64 12] W fun e w' => e = .returned (.tuple #[.int .i64 n1, .bool true]) ∧ W = w')) (hps : p < T.size) (n2 : Int) (G2 : Hid (∀ W, Calls Try.prog 63 #[.string (T.extract (p + 1) T.size), .int .i64 6] W fun e w' => e = .returned (.tuple #[.int .i64 n2, .bool false]) ∧ W = w')) (w : World) :
    Calls Try.prog 40 #[.string s] w fun e w' => e = .returned (.tuple #[.agg #[.int .i64 0, .int .i64 0], .int .i64 20]) ∧ Below w.heap.size w w' := by
  have HH := Lib.hid hH
  clear hH
  obtain ⟨B, hB⟩ : ∃ B : Bool, (B = true ∧ 0 < s.size ∧ T = s.extract 1 s.size ∧ g = -1 ∧ ∃ h0 : 0 < s.size, s[0] = 45) ∨ (B = false ∧ T = s ∧ g = 1 ∧ ((∃ h0 : 0 < s.size, s[0] ≠ 45) ∨ s = ⟨#[]⟩)) := by
    rcases HH.out with ⟨h0, a, b, c⟩ | ⟨h0, a, b, c⟩ | ⟨a, b, c⟩
    · exact ⟨true, .inl ⟨rfl, h0, b, c, h0, a⟩⟩
    · exact ⟨false, .inr ⟨rfl, b, c, .inl ⟨h0, a⟩⟩⟩
    · exact ⟨false, .inr ⟨rfl, b, c, .inr a⟩⟩
  have HB := Lib.hid hB
  clear hB
  go_enter Try.func40, Try.ntmps40
  go_upto_region 2 with (fail)
  go_cut [19] (fun s19 wx => s19 = .bool B ∧ wx = w.alloc (.cells #[.int .i64 0, .int .i64 0] 59))
  case first =>
    rcases HB.out with ⟨b1, b2, -, -, _, b3⟩ | ⟨b1, -, -, ⟨b2, b3⟩ | b3⟩
    · subst b1
      have h1 := fxnot_empty s b2
      have h2 : ((s[0].toNat : Int) == 45) = true := by rw [b3]; rfl
      clear HB HH b3
      go_wp2_with (fail)
      go_meet
      exact ⟨rfl, rfl⟩
    · subst b1
      have h1 := fxnot_empty s b2
      have h2 : ((s[0].toNat : Int) == 45) = false := by
        apply beq_eq_false_iff_ne.2
        intro e
        exact b3 (UInt8.toNat_inj.1 (by show s[0].toNat = 45; omega))
      clear HB HH b3
      go_wp2_with (fail)
      go_meet
      exact ⟨rfl, rfl⟩
    · subst b1
      clear HB HH
      subst b3
      go_wp2_with (fail)
      go_meet
      exact ⟨rfl, rfl⟩
  case rest =>
  obtain ⟨rfl, rfl⟩ := hcut
  go_upto_if 19 with (fail)
  go_cut [0, 4] (fun s0 s4 wx => s0 = .string T ∧ s4 = .int .i64 g ∧ wx = w.alloc (.cells #[.int .i64 0, .int .i64 0] 59))
  case first =>
    rcases HB.out with ⟨b1, b2, b4, b5, -⟩ | ⟨b1, b4, b5, -⟩
    · subst b1
      have B4 := Lib.hid b4
      have B5 := Lib.hid b5
      clear HB HH b4 b5
      go_wp2_with (fail)
      go_meet
      exact ⟨by rw [B4.out], by rw [B5.out], rfl⟩
    · subst b1
      have B4 := Lib.hid b4
      have B5 := Lib.hid b5
      clear HB HH b4 b5
      go_wp2_with (fail)
      go_meet
      exact ⟨by rw [B4.out], by rw [B5.out], rfl⟩
  case rest =>
  obtain ⟨rfl, rfl, rfl⟩ := hcut
  clear HB HH
  go_wp2
  go_loop [5, 6] (fun v i => ∃ k : Nat, k ≤ T.size ∧ i = .int .i64 ((k : Int) - 1) ∧ v = .int .i64 (pt T.data.toList k : Nat)) (fun _ i => (intOf i + 1).toNat)
  case atStart => exact ⟨T.size, Nat.le_refl _, rfl, by rw [show T.size = T.data.toList.length from Array.length_toList.symm, pt_end]⟩
  case round =>
    obtain ⟨k, hk, rfl, rfl⟩ := hrel
    by_cases hk0 : 0 < k
    · obtain ⟨j, rfl⟩ : ∃ j, k = j + 1 := ⟨k - 1, by omega⟩
      have hlt : j < T.size := by omega
      have hget : T.data.toList[j]? = some T[j] := by
        have h' : j < T.data.toList.length := by simpa using hlt
        rw [List.getElem?_eq_getElem h']; rfl
      rw [show ((j + 1 : Nat) : Int) - 1 = (j : Int) from by omega]
      obtain ⟨q, hq⟩ : ∃ q, q = pt T.data.toList (j + 1) := ⟨_, rfl⟩
      rw [← hq]
      by_cases hc : T[j] = 46
      · have HP : Hid (pt T.data.toList j = j) := by rw [hc] at hget; exact pt_hit hget
        have hc' : ((T[j].toNat : Int) == 46) = true := by rw [hc]; rfl
        clear hc hget hq
        go_wp2
        go_round
        case rel => exact ⟨j, by omega, rfl, by rw [HP.out]⟩
        case measure => simp [intOf]
      · have HP : Hid (pt T.data.toList j = q) := by rw [hq]; exact pt_miss hget hc
        have hc' : ((T[j].toNat : Int) == 46) = false := beq_eq_false_iff_ne.2 (fun e => hc (UInt8.toNat_inj.1 (by show T[j].toNat = 46; omega)))
        clear hc hget hq
        go_wp2
        go_round
        case rel => exact ⟨j, by omega, rfl, by rw [HP.out]⟩
        case measure => simp [intOf]
    · obtain rfl : k = 0 := by omega
      rw [show ((0 : Nat) : Int) - 1 = (-1 : Int) from rfl]
      rw [show pt T.data.toList 0 = p from HP.out.symm]
      clear hk hk0
      go_wp2_with (go_at_call 63; (with_reducible refine (G1.out _).mono ?_); rintro e w1 ⟨rfl, rfl⟩)
      go_wp2_with (go_at_call 63; (with_reducible refine (G2.out _).mono ?_); rintro e w1 ⟨rfl, rfl⟩)
      refine bodyPost_ret (v := .tuple #[.agg #[.int .i64 0, .int .i64 0], .int .i64 20]) (by simp [results, Try.results40, go_sem]) rfl ⟨rfl, ?_⟩
      exact (Below.refl _ w).alloc (Nat.le_refl _) _

set_option maxRecDepth 100000 in
set_option maxHeartbeats 1000000 in
theorem Try.rRead_whole_fit (s T : ByteArray) (g : Int) (hH : Head s T g) (hs : s.size ≤ 1000000) (hT : T.size ≤ 1000000) (p : Nat) (HP : Hid (p = pt T.data.toList 0)) (hpl : p ≤ T.size) (hps : p = T.size) (n1 : Int) (G1 : Hid (∀ W, Calls Try.prog 63 #[.string (T.extract 0 p), .int .i64 12] W fun e w' => e = .returned (.tuple #[.int .i64 n1, .bool true]) ∧ W = w')) (X : Int) (hX : wrap64 (g * n1) = X) (x : Int) (y : Nat) (GL : Hid (∀ W, Calls Try.prog 66 #[.agg #[.int .i64 X, .int .i64 0]] W fun e w' => e = .returned (.agg #[.int .i64 x, .int .i64 (y : Int)]) ∧ Below W.heap.size W w')) (hx : -100000000 ≤ x ∧ x ≤ 100000000) (w : World) :
    Calls Try.prog 40 #[.string s] w fun e w' => e = .returned (.tuple #[.agg #[.int .i64 x, .int .i64 (y : Int)], .int .i64 0]) ∧ Below w.heap.size w w' := by
  have hps' : decide (p < T.size) = false := decide_eq_false (by omega)
  have hps2 := Lib.hid hps
  clear hps
  have HH := Lib.hid hH
  clear hH
  obtain ⟨B, hB⟩ : ∃ B : Bool, (B = true ∧ 0 < s.size ∧ T = s.extract 1 s.size ∧ g = -1 ∧ ∃ h0 : 0 < s.size, s[0] = 45) ∨ (B = false ∧ T = s ∧ g = 1 ∧ ((∃ h0 : 0 < s.size, s[0] ≠ 45) ∨ s = ⟨#[]⟩)) := by
    rcases HH.out with ⟨h0, a, b, c⟩ | ⟨h0, a, b, c⟩ | ⟨a, b, c⟩
    · exact ⟨true, .inl ⟨rfl, h0, b, c, h0, a⟩⟩
    · exact ⟨false, .inr ⟨rfl, b, c, .inl ⟨h0, a⟩⟩⟩
    · exact ⟨false, .inr ⟨rfl, b, c, .inr a⟩⟩
  have HB := Lib.hid hB
  clear hB
  go_enter Try.func40, Try.ntmps40
  go_upto_region 2 with (fail)
  go_cut [19] (fun s19 wx => s19 = .bool B ∧ wx = w.alloc (.cells #[.int .i64 0, .int .i64 0] 59))
  case first =>
    rcases HB.out with ⟨b1, b2, -, -, _, b3⟩ | ⟨b1, -, -, ⟨b2, b3⟩ | b3⟩
    · subst b1
      have h1 := fxnot_empty s b2
      have h2 : ((s[0].toNat : Int) == 45) = true := by rw [b3]; rfl
      clear HB HH b3
      go_wp2_with (fail)
      go_meet
      exact ⟨rfl, rfl⟩
    · subst b1
      have h1 := fxnot_empty s b2
      have h2 : ((s[0].toNat : Int) == 45) = false := by
        apply beq_eq_false_iff_ne.2
        intro e
        exact b3 (UInt8.toNat_inj.1 (by show s[0].toNat = 45; omega))
      clear HB HH b3
      go_wp2_with (fail)
      go_meet
      exact ⟨rfl, rfl⟩
    · subst b1
      clear HB HH
      subst b3
      go_wp2_with (fail)
      go_meet
      exact ⟨rfl, rfl⟩
  case rest =>
  obtain ⟨rfl, rfl⟩ := hcut
  go_upto_if 19 with (fail)
  go_cut [0, 4] (fun s0 s4 wx => s0 = .string T ∧ s4 = .int .i64 g ∧ wx = w.alloc (.cells #[.int .i64 0, .int .i64 0] 59))
  case first =>
    rcases HB.out with ⟨b1, b2, b4, b5, -⟩ | ⟨b1, b4, b5, -⟩
    · subst b1
      have B4 := Lib.hid b4
      have B5 := Lib.hid b5
      clear HB HH b4 b5
      go_wp2_with (fail)
      go_meet
      exact ⟨by rw [B4.out], by rw [B5.out], rfl⟩
    · subst b1
      have B4 := Lib.hid b4
      have B5 := Lib.hid b5
      clear HB HH b4 b5
      go_wp2_with (fail)
      go_meet
      exact ⟨by rw [B4.out], by rw [B5.out], rfl⟩
  case rest =>
  obtain ⟨rfl, rfl, rfl⟩ := hcut
  clear HB HH
  go_wp2
  go_loop [5, 6] (fun v i => ∃ k : Nat, k ≤ T.size ∧ i = .int .i64 ((k : Int) - 1) ∧ v = .int .i64 (pt T.data.toList k : Nat)) (fun _ i => (intOf i + 1).toNat)
  case atStart => exact ⟨T.size, Nat.le_refl _, rfl, by rw [show T.size = T.data.toList.length from Array.length_toList.symm, pt_end]⟩
  case round =>
    obtain ⟨k, hk, rfl, rfl⟩ := hrel
    by_cases hk0 : 0 < k
    · obtain ⟨j, rfl⟩ : ∃ j, k = j + 1 := ⟨k - 1, by omega⟩
      have hlt : j < T.size := by omega
      have hget : T.data.toList[j]? = some T[j] := by
        have h' : j < T.data.toList.length := by simpa using hlt
        rw [List.getElem?_eq_getElem h']; rfl
      rw [show ((j + 1 : Nat) : Int) - 1 = (j : Int) from by omega]
      obtain ⟨q, hq⟩ : ∃ q, q = pt T.data.toList (j + 1) := ⟨_, rfl⟩
      rw [← hq]
      by_cases hc : T[j] = 46
      · have HP : Hid (pt T.data.toList j = j) := by rw [hc] at hget; exact pt_hit hget
        have hc' : ((T[j].toNat : Int) == 46) = true := by rw [hc]; rfl
        clear hc hget hq
        go_wp2
        go_round
        case rel => exact ⟨j, by omega, rfl, by rw [HP.out]⟩
        case measure => simp [intOf]
      · have HP : Hid (pt T.data.toList j = q) := by rw [hq]; exact pt_miss hget hc
        have hc' : ((T[j].toNat : Int) == 46) = false := beq_eq_false_iff_ne.2 (fun e => hc (UInt8.toNat_inj.1 (by show T[j].toNat = 46; omega)))
        clear hc hget hq
        go_wp2
        go_round
        case rel => exact ⟨j, by omega, rfl, by rw [HP.out]⟩
        case measure => simp [intOf]
    · obtain rfl : k = 0 := by omega
      rw [show ((0 : Nat) : Int) - 1 = (-1 : Int) from rfl]
      rw [show pt T.data.toList 0 = p from HP.out.symm]
      clear hk hk0
      go_wp2_with (go_at_call 63; (with_reducible refine (G1.out _).mono ?_); rintro e w1 ⟨rfl, rfl⟩)
      go_wp2_with (go_at_call 66; refine (GL.out _).mono ?_; rintro e w1 ⟨rfl, hb⟩; obtain ⟨hc, hf⟩ := bcell hb; have hz : w.heap.size < w1.heap.size := by have := hb.size; simp at this; omega)
      have hq := cells_past hz ((hc w.heap.size 0 (by simp)).trans (by simp [go_sem] : _ = some (.int .i64 0))) ((hc w.heap.size 1 (by simp)).trans (by simp [go_sem] : _ = some (.int .i64 0))) (.int .i64 x) (.int .i64 (y : Int)) (.cells #[.int .i64 x, .int .i64 (y : Int)] 59)
      refine bodyPost_ret (v := .tuple #[.agg #[.int .i64 x, .int .i64 (y : Int)], .int .i64 0]) (by simp [results, Try.results40, go_sem, hq.1, hq.2]) rfl ⟨rfl, ?_⟩
      exact (((((Below.refl _ w).alloc (Nat.le_refl _) _).trans (hb.mono (by simp))).setCell (Nat.le_refl _) _).setCell (Nat.le_refl _) _).alloc (by simp [World.setCell]; omega) _

set_option maxRecDepth 100000 in
set_option maxHeartbeats 1000000 in
theorem Try.rRead_point_fit (s T : ByteArray) (g : Int) (hH : Head s T g) (hs : s.size ≤ 1000000) (hT : T.size ≤ 1000000) (p : Nat) (HP : Hid (p = pt T.data.toList 0)) (hpl : p ≤ T.size) (n1 : Int) (G1 : Hid (∀ W, Calls Try.prog 63 #[.string (T.extract 0 p), .int .i64 12] W fun e w' => e = .returned (.tuple #[.int .i64 n1, .bool true]) ∧ W = w')) (hps : p < T.size) (n2 : Int) (G2 : Hid (∀ W, Calls Try.prog 63 #[.string (T.extract (p + 1) T.size), .int .i64 6] W fun e w' => e = .returned (.tuple #[.int .i64 n2, .bool true]) ∧ W = w')) (hn2 : 0 ≤ n2 ∧ n2 ≤ 1000000) (hpl6 : (T.size : Int) - (p : Int) - 1 ≤ 6) (X Y : Int) (hY0 : 0 ≤ Y ∧ Y ≤ 1000000000000000000) (hY : wrap64 (n1 * p10 ((T.size : Int) - (p : Int) - 1)) = Y) (hX : wrap64 (g * (Y + n2)) = X) (x : Int) (y : Nat) (GL : Hid (∀ W, Calls Try.prog 66 #[.agg #[.int .i64 X, .int .i64 ((T.size : Int) - (p : Int) - 1)]] W fun e w' => e = .returned (.agg #[.int .i64 x, .int .i64 (y : Int)]) ∧ Below W.heap.size W w')) (hx : -100000000 ≤ x ∧ x ≤ 100000000) (w : World) :
    Calls Try.prog 40 #[.string s] w fun e w' => e = .returned (.tuple #[.agg #[.int .i64 x, .int .i64 (y : Int)], .int .i64 0]) ∧ Below w.heap.size w w' := by
  have HH := Lib.hid hH
  clear hH
  obtain ⟨B, hB⟩ : ∃ B : Bool, (B = true ∧ 0 < s.size ∧ T = s.extract 1 s.size ∧ g = -1 ∧ ∃ h0 : 0 < s.size, s[0] = 45) ∨ (B = false ∧ T = s ∧ g = 1 ∧ ((∃ h0 : 0 < s.size, s[0] ≠ 45) ∨ s = ⟨#[]⟩)) := by
    rcases HH.out with ⟨h0, a, b, c⟩ | ⟨h0, a, b, c⟩ | ⟨a, b, c⟩
    · exact ⟨true, .inl ⟨rfl, h0, b, c, h0, a⟩⟩
    · exact ⟨false, .inr ⟨rfl, b, c, .inl ⟨h0, a⟩⟩⟩
    · exact ⟨false, .inr ⟨rfl, b, c, .inr a⟩⟩
  have HB := Lib.hid hB
  clear hB
  go_enter Try.func40, Try.ntmps40
  go_upto_region 2 with (fail)
  go_cut [19] (fun s19 wx => s19 = .bool B ∧ wx = w.alloc (.cells #[.int .i64 0, .int .i64 0] 59))
  case first =>
    rcases HB.out with ⟨b1, b2, -, -, _, b3⟩ | ⟨b1, -, -, ⟨b2, b3⟩ | b3⟩
    · subst b1
      have h1 := fxnot_empty s b2
      have h2 : ((s[0].toNat : Int) == 45) = true := by rw [b3]; rfl
      clear HB HH b3
      go_wp2_with (fail)
      go_meet
      exact ⟨rfl, rfl⟩
    · subst b1
      have h1 := fxnot_empty s b2
      have h2 : ((s[0].toNat : Int) == 45) = false := by
        apply beq_eq_false_iff_ne.2
        intro e
        exact b3 (UInt8.toNat_inj.1 (by show s[0].toNat = 45; omega))
      clear HB HH b3
      go_wp2_with (fail)
      go_meet
      exact ⟨rfl, rfl⟩
    · subst b1
      clear HB HH
      subst b3
      go_wp2_with (fail)
      go_meet
      exact ⟨rfl, rfl⟩
  case rest =>
  obtain ⟨rfl, rfl⟩ := hcut
  go_upto_if 19 with (fail)
  go_cut [0, 4] (fun s0 s4 wx => s0 = .string T ∧ s4 = .int .i64 g ∧ wx = w.alloc (.cells #[.int .i64 0, .int .i64 0] 59))
  case first =>
    rcases HB.out with ⟨b1, b2, b4, b5, -⟩ | ⟨b1, b4, b5, -⟩
    · subst b1
      have B4 := Lib.hid b4
      have B5 := Lib.hid b5
      clear HB HH b4 b5
      go_wp2_with (fail)
      go_meet
      exact ⟨by rw [B4.out], by rw [B5.out], rfl⟩
    · subst b1
      have B4 := Lib.hid b4
      have B5 := Lib.hid b5
      clear HB HH b4 b5
      go_wp2_with (fail)
      go_meet
      exact ⟨by rw [B4.out], by rw [B5.out], rfl⟩
  case rest =>
  obtain ⟨rfl, rfl, rfl⟩ := hcut
  clear HB HH
  go_wp2
  go_loop [5, 6] (fun v i => ∃ k : Nat, k ≤ T.size ∧ i = .int .i64 ((k : Int) - 1) ∧ v = .int .i64 (pt T.data.toList k : Nat)) (fun _ i => (intOf i + 1).toNat)
  case atStart => exact ⟨T.size, Nat.le_refl _, rfl, by rw [show T.size = T.data.toList.length from Array.length_toList.symm, pt_end]⟩
  case round =>
    obtain ⟨k, hk, rfl, rfl⟩ := hrel
    by_cases hk0 : 0 < k
    · obtain ⟨j, rfl⟩ : ∃ j, k = j + 1 := ⟨k - 1, by omega⟩
      have hlt : j < T.size := by omega
      have hget : T.data.toList[j]? = some T[j] := by
        have h' : j < T.data.toList.length := by simpa using hlt
        rw [List.getElem?_eq_getElem h']; rfl
      rw [show ((j + 1 : Nat) : Int) - 1 = (j : Int) from by omega]
      obtain ⟨q, hq⟩ : ∃ q, q = pt T.data.toList (j + 1) := ⟨_, rfl⟩
      rw [← hq]
      by_cases hc : T[j] = 46
      · have HP : Hid (pt T.data.toList j = j) := by rw [hc] at hget; exact pt_hit hget
        have hc' : ((T[j].toNat : Int) == 46) = true := by rw [hc]; rfl
        clear hc hget hq
        go_wp2
        go_round
        case rel => exact ⟨j, by omega, rfl, by rw [HP.out]⟩
        case measure => simp [intOf]
      · have HP : Hid (pt T.data.toList j = q) := by rw [hq]; exact pt_miss hget hc
        have hc' : ((T[j].toNat : Int) == 46) = false := beq_eq_false_iff_ne.2 (fun e => hc (UInt8.toNat_inj.1 (by show T[j].toNat = 46; omega)))
        clear hc hget hq
        go_wp2
        go_round
        case rel => exact ⟨j, by omega, rfl, by rw [HP.out]⟩
        case measure => simp [intOf]
    · obtain rfl : k = 0 := by omega
      rw [show ((0 : Nat) : Int) - 1 = (-1 : Int) from rfl]
      rw [show pt T.data.toList 0 = p from HP.out.symm]
      clear hk hk0
      go_wp2_with (go_at_call 63; (with_reducible refine (G1.out _).mono ?_); rintro e w1 ⟨rfl, rfl⟩)
      go_wp2_with (first | (go_at_call 63; (with_reducible refine (G2.out _).mono ?_); rintro e w1 ⟨rfl, rfl⟩) | (go_at_call 44; refine (Try.rtens_int _ (by omega) (by omega) _).mono ?_; rintro e w1 ⟨rfl, rfl⟩))
      go_wp2_with (go_at_call 66; refine (GL.out _).mono ?_; rintro e w1 ⟨rfl, hb⟩; obtain ⟨hc, hf⟩ := bcell hb; have hz : w.heap.size < w1.heap.size := by have := hb.size; simp at this; omega)
      have hq := cells_past hz ((hc w.heap.size 0 (by simp)).trans (by simp [go_sem] : _ = some (.int .i64 0))) ((hc w.heap.size 1 (by simp)).trans (by simp [go_sem] : _ = some (.int .i64 0))) (.int .i64 x) (.int .i64 (y : Int)) (.cells #[.int .i64 x, .int .i64 (y : Int)] 59)
      refine bodyPost_ret (v := .tuple #[.agg #[.int .i64 x, .int .i64 (y : Int)], .int .i64 0]) (by simp [results, Try.results40, go_sem, hq.1, hq.2]) rfl ⟨rfl, ?_⟩
      exact (((((Below.refl _ w).alloc (Nat.le_refl _) _).trans (hb.mono (by simp))).setCell (Nat.le_refl _) _).setCell (Nat.le_refl _) _).alloc (by simp [World.setCell]; omega) _

set_option maxRecDepth 100000 in
set_option maxHeartbeats 1000000 in
theorem Try.rRead_whole_low (s T : ByteArray) (g : Int) (hH : Head s T g) (hs : s.size ≤ 1000000) (hT : T.size ≤ 1000000) (p : Nat) (HP : Hid (p = pt T.data.toList 0)) (hpl : p ≤ T.size) (hps : p = T.size) (n1 : Int) (G1 : Hid (∀ W, Calls Try.prog 63 #[.string (T.extract 0 p), .int .i64 12] W fun e w' => e = .returned (.tuple #[.int .i64 n1, .bool true]) ∧ W = w')) (X : Int) (hX : wrap64 (g * n1) = X) (x : Int) (y : Nat) (GL : Hid (∀ W, Calls Try.prog 66 #[.agg #[.int .i64 X, .int .i64 0]] W fun e w' => e = .returned (.agg #[.int .i64 x, .int .i64 (y : Int)]) ∧ Below W.heap.size W w')) (hx : x < -100000000) (w : World) :
    Calls Try.prog 40 #[.string s] w fun e w' => e = .returned (.tuple #[.agg #[.int .i64 0, .int .i64 0], .int .i64 2]) ∧ Below w.heap.size w w' := by
  have hps' : decide (p < T.size) = false := decide_eq_false (by omega)
  have hps2 := Lib.hid hps
  clear hps
  have HH := Lib.hid hH
  clear hH
  obtain ⟨B, hB⟩ : ∃ B : Bool, (B = true ∧ 0 < s.size ∧ T = s.extract 1 s.size ∧ g = -1 ∧ ∃ h0 : 0 < s.size, s[0] = 45) ∨ (B = false ∧ T = s ∧ g = 1 ∧ ((∃ h0 : 0 < s.size, s[0] ≠ 45) ∨ s = ⟨#[]⟩)) := by
    rcases HH.out with ⟨h0, a, b, c⟩ | ⟨h0, a, b, c⟩ | ⟨a, b, c⟩
    · exact ⟨true, .inl ⟨rfl, h0, b, c, h0, a⟩⟩
    · exact ⟨false, .inr ⟨rfl, b, c, .inl ⟨h0, a⟩⟩⟩
    · exact ⟨false, .inr ⟨rfl, b, c, .inr a⟩⟩
  have HB := Lib.hid hB
  clear hB
  go_enter Try.func40, Try.ntmps40
  go_upto_region 2 with (fail)
  go_cut [19] (fun s19 wx => s19 = .bool B ∧ wx = w.alloc (.cells #[.int .i64 0, .int .i64 0] 59))
  case first =>
    rcases HB.out with ⟨b1, b2, -, -, _, b3⟩ | ⟨b1, -, -, ⟨b2, b3⟩ | b3⟩
    · subst b1
      have h1 := fxnot_empty s b2
      have h2 : ((s[0].toNat : Int) == 45) = true := by rw [b3]; rfl
      clear HB HH b3
      go_wp2_with (fail)
      go_meet
      exact ⟨rfl, rfl⟩
    · subst b1
      have h1 := fxnot_empty s b2
      have h2 : ((s[0].toNat : Int) == 45) = false := by
        apply beq_eq_false_iff_ne.2
        intro e
        exact b3 (UInt8.toNat_inj.1 (by show s[0].toNat = 45; omega))
      clear HB HH b3
      go_wp2_with (fail)
      go_meet
      exact ⟨rfl, rfl⟩
    · subst b1
      clear HB HH
      subst b3
      go_wp2_with (fail)
      go_meet
      exact ⟨rfl, rfl⟩
  case rest =>
  obtain ⟨rfl, rfl⟩ := hcut
  go_upto_if 19 with (fail)
  go_cut [0, 4] (fun s0 s4 wx => s0 = .string T ∧ s4 = .int .i64 g ∧ wx = w.alloc (.cells #[.int .i64 0, .int .i64 0] 59))
  case first =>
    rcases HB.out with ⟨b1, b2, b4, b5, -⟩ | ⟨b1, b4, b5, -⟩
    · subst b1
      have B4 := Lib.hid b4
      have B5 := Lib.hid b5
      clear HB HH b4 b5
      go_wp2_with (fail)
      go_meet
      exact ⟨by rw [B4.out], by rw [B5.out], rfl⟩
    · subst b1
      have B4 := Lib.hid b4
      have B5 := Lib.hid b5
      clear HB HH b4 b5
      go_wp2_with (fail)
      go_meet
      exact ⟨by rw [B4.out], by rw [B5.out], rfl⟩
  case rest =>
  obtain ⟨rfl, rfl, rfl⟩ := hcut
  clear HB HH
  go_wp2
  go_loop [5, 6] (fun v i => ∃ k : Nat, k ≤ T.size ∧ i = .int .i64 ((k : Int) - 1) ∧ v = .int .i64 (pt T.data.toList k : Nat)) (fun _ i => (intOf i + 1).toNat)
  case atStart => exact ⟨T.size, Nat.le_refl _, rfl, by rw [show T.size = T.data.toList.length from Array.length_toList.symm, pt_end]⟩
  case round =>
    obtain ⟨k, hk, rfl, rfl⟩ := hrel
    by_cases hk0 : 0 < k
    · obtain ⟨j, rfl⟩ : ∃ j, k = j + 1 := ⟨k - 1, by omega⟩
      have hlt : j < T.size := by omega
      have hget : T.data.toList[j]? = some T[j] := by
        have h' : j < T.data.toList.length := by simpa using hlt
        rw [List.getElem?_eq_getElem h']; rfl
      rw [show ((j + 1 : Nat) : Int) - 1 = (j : Int) from by omega]
      obtain ⟨q, hq⟩ : ∃ q, q = pt T.data.toList (j + 1) := ⟨_, rfl⟩
      rw [← hq]
      by_cases hc : T[j] = 46
      · have HP : Hid (pt T.data.toList j = j) := by rw [hc] at hget; exact pt_hit hget
        have hc' : ((T[j].toNat : Int) == 46) = true := by rw [hc]; rfl
        clear hc hget hq
        go_wp2
        go_round
        case rel => exact ⟨j, by omega, rfl, by rw [HP.out]⟩
        case measure => simp [intOf]
      · have HP : Hid (pt T.data.toList j = q) := by rw [hq]; exact pt_miss hget hc
        have hc' : ((T[j].toNat : Int) == 46) = false := beq_eq_false_iff_ne.2 (fun e => hc (UInt8.toNat_inj.1 (by show T[j].toNat = 46; omega)))
        clear hc hget hq
        go_wp2
        go_round
        case rel => exact ⟨j, by omega, rfl, by rw [HP.out]⟩
        case measure => simp [intOf]
    · obtain rfl : k = 0 := by omega
      rw [show ((0 : Nat) : Int) - 1 = (-1 : Int) from rfl]
      rw [show pt T.data.toList 0 = p from HP.out.symm]
      clear hk hk0
      go_wp2_with (go_at_call 63; (with_reducible refine (G1.out _).mono ?_); rintro e w1 ⟨rfl, rfl⟩)
      go_wp2_with (go_at_call 66; refine (GL.out _).mono ?_; rintro e w1 ⟨rfl, hb⟩; obtain ⟨hc, hf⟩ := bcell hb; have hz : w.heap.size < w1.heap.size := by have := hb.size; simp at this; omega)
      have hq := cells_past hz ((hc w.heap.size 0 (by simp)).trans (by simp [go_sem] : _ = some (.int .i64 0))) ((hc w.heap.size 1 (by simp)).trans (by simp [go_sem] : _ = some (.int .i64 0))) (.int .i64 0) (.int .i64 0) (.cells #[.int .i64 x, .int .i64 (y : Int)] 59)
      refine bodyPost_ret (v := .tuple #[.agg #[.int .i64 0, .int .i64 0], .int .i64 2]) (by simp [results, Try.results40, go_sem, hq.1, hq.2]) rfl ⟨rfl, ?_⟩
      exact (((((Below.refl _ w).alloc (Nat.le_refl _) _).trans (hb.mono (by simp))).setCell (Nat.le_refl _) _).setCell (Nat.le_refl _) _).alloc (by simp [World.setCell]; omega) _

set_option maxRecDepth 100000 in
set_option maxHeartbeats 1000000 in
theorem Try.rRead_point_low (s T : ByteArray) (g : Int) (hH : Head s T g) (hs : s.size ≤ 1000000) (hT : T.size ≤ 1000000) (p : Nat) (HP : Hid (p = pt T.data.toList 0)) (hpl : p ≤ T.size) (n1 : Int) (G1 : Hid (∀ W, Calls Try.prog 63 #[.string (T.extract 0 p), .int .i64 12] W fun e w' => e = .returned (.tuple #[.int .i64 n1, .bool true]) ∧ W = w')) (hps : p < T.size) (n2 : Int) (G2 : Hid (∀ W, Calls Try.prog 63 #[.string (T.extract (p + 1) T.size), .int .i64 6] W fun e w' => e = .returned (.tuple #[.int .i64 n2, .bool true]) ∧ W = w')) (hn2 : 0 ≤ n2 ∧ n2 ≤ 1000000) (hpl6 : (T.size : Int) - (p : Int) - 1 ≤ 6) (X Y : Int) (hY0 : 0 ≤ Y ∧ Y ≤ 1000000000000000000) (hY : wrap64 (n1 * p10 ((T.size : Int) - (p : Int) - 1)) = Y) (hX : wrap64 (g * (Y + n2)) = X) (x : Int) (y : Nat) (GL : Hid (∀ W, Calls Try.prog 66 #[.agg #[.int .i64 X, .int .i64 ((T.size : Int) - (p : Int) - 1)]] W fun e w' => e = .returned (.agg #[.int .i64 x, .int .i64 (y : Int)]) ∧ Below W.heap.size W w')) (hx : x < -100000000) (w : World) :
    Calls Try.prog 40 #[.string s] w fun e w' => e = .returned (.tuple #[.agg #[.int .i64 0, .int .i64 0], .int .i64 2]) ∧ Below w.heap.size w w' := by
  have HH := Lib.hid hH
  clear hH
  obtain ⟨B, hB⟩ : ∃ B : Bool, (B = true ∧ 0 < s.size ∧ T = s.extract 1 s.size ∧ g = -1 ∧ ∃ h0 : 0 < s.size, s[0] = 45) ∨ (B = false ∧ T = s ∧ g = 1 ∧ ((∃ h0 : 0 < s.size, s[0] ≠ 45) ∨ s = ⟨#[]⟩)) := by
    rcases HH.out with ⟨h0, a, b, c⟩ | ⟨h0, a, b, c⟩ | ⟨a, b, c⟩
    · exact ⟨true, .inl ⟨rfl, h0, b, c, h0, a⟩⟩
    · exact ⟨false, .inr ⟨rfl, b, c, .inl ⟨h0, a⟩⟩⟩
    · exact ⟨false, .inr ⟨rfl, b, c, .inr a⟩⟩
  have HB := Lib.hid hB
  clear hB
  go_enter Try.func40, Try.ntmps40
  go_upto_region 2 with (fail)
  go_cut [19] (fun s19 wx => s19 = .bool B ∧ wx = w.alloc (.cells #[.int .i64 0, .int .i64 0] 59))
  case first =>
    rcases HB.out with ⟨b1, b2, -, -, _, b3⟩ | ⟨b1, -, -, ⟨b2, b3⟩ | b3⟩
    · subst b1
      have h1 := fxnot_empty s b2
      have h2 : ((s[0].toNat : Int) == 45) = true := by rw [b3]; rfl
      clear HB HH b3
      go_wp2_with (fail)
      go_meet
      exact ⟨rfl, rfl⟩
    · subst b1
      have h1 := fxnot_empty s b2
      have h2 : ((s[0].toNat : Int) == 45) = false := by
        apply beq_eq_false_iff_ne.2
        intro e
        exact b3 (UInt8.toNat_inj.1 (by show s[0].toNat = 45; omega))
      clear HB HH b3
      go_wp2_with (fail)
      go_meet
      exact ⟨rfl, rfl⟩
    · subst b1
      clear HB HH
      subst b3
      go_wp2_with (fail)
      go_meet
      exact ⟨rfl, rfl⟩
  case rest =>
  obtain ⟨rfl, rfl⟩ := hcut
  go_upto_if 19 with (fail)
  go_cut [0, 4] (fun s0 s4 wx => s0 = .string T ∧ s4 = .int .i64 g ∧ wx = w.alloc (.cells #[.int .i64 0, .int .i64 0] 59))
  case first =>
    rcases HB.out with ⟨b1, b2, b4, b5, -⟩ | ⟨b1, b4, b5, -⟩
    · subst b1
      have B4 := Lib.hid b4
      have B5 := Lib.hid b5
      clear HB HH b4 b5
      go_wp2_with (fail)
      go_meet
      exact ⟨by rw [B4.out], by rw [B5.out], rfl⟩
    · subst b1
      have B4 := Lib.hid b4
      have B5 := Lib.hid b5
      clear HB HH b4 b5
      go_wp2_with (fail)
      go_meet
      exact ⟨by rw [B4.out], by rw [B5.out], rfl⟩
  case rest =>
  obtain ⟨rfl, rfl, rfl⟩ := hcut
  clear HB HH
  go_wp2
  go_loop [5, 6] (fun v i => ∃ k : Nat, k ≤ T.size ∧ i = .int .i64 ((k : Int) - 1) ∧ v = .int .i64 (pt T.data.toList k : Nat)) (fun _ i => (intOf i + 1).toNat)
  case atStart => exact ⟨T.size, Nat.le_refl _, rfl, by rw [show T.size = T.data.toList.length from Array.length_toList.symm, pt_end]⟩
  case round =>
    obtain ⟨k, hk, rfl, rfl⟩ := hrel
    by_cases hk0 : 0 < k
    · obtain ⟨j, rfl⟩ : ∃ j, k = j + 1 := ⟨k - 1, by omega⟩
      have hlt : j < T.size := by omega
      have hget : T.data.toList[j]? = some T[j] := by
        have h' : j < T.data.toList.length := by simpa using hlt
        rw [List.getElem?_eq_getElem h']; rfl
      rw [show ((j + 1 : Nat) : Int) - 1 = (j : Int) from by omega]
      obtain ⟨q, hq⟩ : ∃ q, q = pt T.data.toList (j + 1) := ⟨_, rfl⟩
      rw [← hq]
      by_cases hc : T[j] = 46
      · have HP : Hid (pt T.data.toList j = j) := by rw [hc] at hget; exact pt_hit hget
        have hc' : ((T[j].toNat : Int) == 46) = true := by rw [hc]; rfl
        clear hc hget hq
        go_wp2
        go_round
        case rel => exact ⟨j, by omega, rfl, by rw [HP.out]⟩
        case measure => simp [intOf]
      · have HP : Hid (pt T.data.toList j = q) := by rw [hq]; exact pt_miss hget hc
        have hc' : ((T[j].toNat : Int) == 46) = false := beq_eq_false_iff_ne.2 (fun e => hc (UInt8.toNat_inj.1 (by show T[j].toNat = 46; omega)))
        clear hc hget hq
        go_wp2
        go_round
        case rel => exact ⟨j, by omega, rfl, by rw [HP.out]⟩
        case measure => simp [intOf]
    · obtain rfl : k = 0 := by omega
      rw [show ((0 : Nat) : Int) - 1 = (-1 : Int) from rfl]
      rw [show pt T.data.toList 0 = p from HP.out.symm]
      clear hk hk0
      go_wp2_with (go_at_call 63; (with_reducible refine (G1.out _).mono ?_); rintro e w1 ⟨rfl, rfl⟩)
      go_wp2_with (first | (go_at_call 63; (with_reducible refine (G2.out _).mono ?_); rintro e w1 ⟨rfl, rfl⟩) | (go_at_call 44; refine (Try.rtens_int _ (by omega) (by omega) _).mono ?_; rintro e w1 ⟨rfl, rfl⟩))
      go_wp2_with (go_at_call 66; refine (GL.out _).mono ?_; rintro e w1 ⟨rfl, hb⟩; obtain ⟨hc, hf⟩ := bcell hb; have hz : w.heap.size < w1.heap.size := by have := hb.size; simp at this; omega)
      have hq := cells_past hz ((hc w.heap.size 0 (by simp)).trans (by simp [go_sem] : _ = some (.int .i64 0))) ((hc w.heap.size 1 (by simp)).trans (by simp [go_sem] : _ = some (.int .i64 0))) (.int .i64 0) (.int .i64 0) (.cells #[.int .i64 x, .int .i64 (y : Int)] 59)
      refine bodyPost_ret (v := .tuple #[.agg #[.int .i64 0, .int .i64 0], .int .i64 2]) (by simp [results, Try.results40, go_sem, hq.1, hq.2]) rfl ⟨rfl, ?_⟩
      exact (((((Below.refl _ w).alloc (Nat.le_refl _) _).trans (hb.mono (by simp))).setCell (Nat.le_refl _) _).setCell (Nat.le_refl _) _).alloc (by simp [World.setCell]; omega) _

set_option maxRecDepth 100000 in
set_option maxHeartbeats 1000000 in
theorem Try.rRead_whole_high (s T : ByteArray) (g : Int) (hH : Head s T g) (hs : s.size ≤ 1000000) (hT : T.size ≤ 1000000) (p : Nat) (HP : Hid (p = pt T.data.toList 0)) (hpl : p ≤ T.size) (hps : p = T.size) (n1 : Int) (G1 : Hid (∀ W, Calls Try.prog 63 #[.string (T.extract 0 p), .int .i64 12] W fun e w' => e = .returned (.tuple #[.int .i64 n1, .bool true]) ∧ W = w')) (X : Int) (hX : wrap64 (g * n1) = X) (x : Int) (y : Nat) (GL : Hid (∀ W, Calls Try.prog 66 #[.agg #[.int .i64 X, .int .i64 0]] W fun e w' => e = .returned (.agg #[.int .i64 x, .int .i64 (y : Int)]) ∧ Below W.heap.size W w')) (hx : 100000000 < x) (w : World) :
    Calls Try.prog 40 #[.string s] w fun e w' => e = .returned (.tuple #[.agg #[.int .i64 0, .int .i64 0], .int .i64 2]) ∧ Below w.heap.size w w' := by
  have hps' : decide (p < T.size) = false := decide_eq_false (by omega)
  have hps2 := Lib.hid hps
  clear hps
  have HH := Lib.hid hH
  clear hH
  obtain ⟨B, hB⟩ : ∃ B : Bool, (B = true ∧ 0 < s.size ∧ T = s.extract 1 s.size ∧ g = -1 ∧ ∃ h0 : 0 < s.size, s[0] = 45) ∨ (B = false ∧ T = s ∧ g = 1 ∧ ((∃ h0 : 0 < s.size, s[0] ≠ 45) ∨ s = ⟨#[]⟩)) := by
    rcases HH.out with ⟨h0, a, b, c⟩ | ⟨h0, a, b, c⟩ | ⟨a, b, c⟩
    · exact ⟨true, .inl ⟨rfl, h0, b, c, h0, a⟩⟩
    · exact ⟨false, .inr ⟨rfl, b, c, .inl ⟨h0, a⟩⟩⟩
    · exact ⟨false, .inr ⟨rfl, b, c, .inr a⟩⟩
  have HB := Lib.hid hB
  clear hB
  go_enter Try.func40, Try.ntmps40
  go_upto_region 2 with (fail)
  go_cut [19] (fun s19 wx => s19 = .bool B ∧ wx = w.alloc (.cells #[.int .i64 0, .int .i64 0] 59))
  case first =>
    rcases HB.out with ⟨b1, b2, -, -, _, b3⟩ | ⟨b1, -, -, ⟨b2, b3⟩ | b3⟩
    · subst b1
      have h1 := fxnot_empty s b2
      have h2 : ((s[0].toNat : Int) == 45) = true := by rw [b3]; rfl
      clear HB HH b3
      go_wp2_with (fail)
      go_meet
      exact ⟨rfl, rfl⟩
    · subst b1
      have h1 := fxnot_empty s b2
      have h2 : ((s[0].toNat : Int) == 45) = false := by
        apply beq_eq_false_iff_ne.2
        intro e
        exact b3 (UInt8.toNat_inj.1 (by show s[0].toNat = 45; omega))
      clear HB HH b3
      go_wp2_with (fail)
      go_meet
      exact ⟨rfl, rfl⟩
    · subst b1
      clear HB HH
      subst b3
      go_wp2_with (fail)
      go_meet
      exact ⟨rfl, rfl⟩
  case rest =>
  obtain ⟨rfl, rfl⟩ := hcut
  go_upto_if 19 with (fail)
  go_cut [0, 4] (fun s0 s4 wx => s0 = .string T ∧ s4 = .int .i64 g ∧ wx = w.alloc (.cells #[.int .i64 0, .int .i64 0] 59))
  case first =>
    rcases HB.out with ⟨b1, b2, b4, b5, -⟩ | ⟨b1, b4, b5, -⟩
    · subst b1
      have B4 := Lib.hid b4
      have B5 := Lib.hid b5
      clear HB HH b4 b5
      go_wp2_with (fail)
      go_meet
      exact ⟨by rw [B4.out], by rw [B5.out], rfl⟩
    · subst b1
      have B4 := Lib.hid b4
      have B5 := Lib.hid b5
      clear HB HH b4 b5
      go_wp2_with (fail)
      go_meet
      exact ⟨by rw [B4.out], by rw [B5.out], rfl⟩
  case rest =>
  obtain ⟨rfl, rfl, rfl⟩ := hcut
  clear HB HH
  go_wp2
  go_loop [5, 6] (fun v i => ∃ k : Nat, k ≤ T.size ∧ i = .int .i64 ((k : Int) - 1) ∧ v = .int .i64 (pt T.data.toList k : Nat)) (fun _ i => (intOf i + 1).toNat)
  case atStart => exact ⟨T.size, Nat.le_refl _, rfl, by rw [show T.size = T.data.toList.length from Array.length_toList.symm, pt_end]⟩
  case round =>
    obtain ⟨k, hk, rfl, rfl⟩ := hrel
    by_cases hk0 : 0 < k
    · obtain ⟨j, rfl⟩ : ∃ j, k = j + 1 := ⟨k - 1, by omega⟩
      have hlt : j < T.size := by omega
      have hget : T.data.toList[j]? = some T[j] := by
        have h' : j < T.data.toList.length := by simpa using hlt
        rw [List.getElem?_eq_getElem h']; rfl
      rw [show ((j + 1 : Nat) : Int) - 1 = (j : Int) from by omega]
      obtain ⟨q, hq⟩ : ∃ q, q = pt T.data.toList (j + 1) := ⟨_, rfl⟩
      rw [← hq]
      by_cases hc : T[j] = 46
      · have HP : Hid (pt T.data.toList j = j) := by rw [hc] at hget; exact pt_hit hget
        have hc' : ((T[j].toNat : Int) == 46) = true := by rw [hc]; rfl
        clear hc hget hq
        go_wp2
        go_round
        case rel => exact ⟨j, by omega, rfl, by rw [HP.out]⟩
        case measure => simp [intOf]
      · have HP : Hid (pt T.data.toList j = q) := by rw [hq]; exact pt_miss hget hc
        have hc' : ((T[j].toNat : Int) == 46) = false := beq_eq_false_iff_ne.2 (fun e => hc (UInt8.toNat_inj.1 (by show T[j].toNat = 46; omega)))
        clear hc hget hq
        go_wp2
        go_round
        case rel => exact ⟨j, by omega, rfl, by rw [HP.out]⟩
        case measure => simp [intOf]
    · obtain rfl : k = 0 := by omega
      rw [show ((0 : Nat) : Int) - 1 = (-1 : Int) from rfl]
      rw [show pt T.data.toList 0 = p from HP.out.symm]
      clear hk hk0
      go_wp2_with (go_at_call 63; (with_reducible refine (G1.out _).mono ?_); rintro e w1 ⟨rfl, rfl⟩)
      go_wp2_with (go_at_call 66; refine (GL.out _).mono ?_; rintro e w1 ⟨rfl, hb⟩; obtain ⟨hc, hf⟩ := bcell hb; have hz : w.heap.size < w1.heap.size := by have := hb.size; simp at this; omega)
      have hq := cells_past hz ((hc w.heap.size 0 (by simp)).trans (by simp [go_sem] : _ = some (.int .i64 0))) ((hc w.heap.size 1 (by simp)).trans (by simp [go_sem] : _ = some (.int .i64 0))) (.int .i64 0) (.int .i64 0) (.cells #[.int .i64 x, .int .i64 (y : Int)] 59)
      refine bodyPost_ret (v := .tuple #[.agg #[.int .i64 0, .int .i64 0], .int .i64 2]) (by simp [results, Try.results40, go_sem, hq.1, hq.2]) rfl ⟨rfl, ?_⟩
      exact (((((Below.refl _ w).alloc (Nat.le_refl _) _).trans (hb.mono (by simp))).setCell (Nat.le_refl _) _).setCell (Nat.le_refl _) _).alloc (by simp [World.setCell]; omega) _

set_option maxRecDepth 100000 in
set_option maxHeartbeats 1000000 in
theorem Try.rRead_point_high (s T : ByteArray) (g : Int) (hH : Head s T g) (hs : s.size ≤ 1000000) (hT : T.size ≤ 1000000) (p : Nat) (HP : Hid (p = pt T.data.toList 0)) (hpl : p ≤ T.size) (n1 : Int) (G1 : Hid (∀ W, Calls Try.prog 63 #[.string (T.extract 0 p), .int .i64 12] W fun e w' => e = .returned (.tuple #[.int .i64 n1, .bool true]) ∧ W = w')) (hps : p < T.size) (n2 : Int) (G2 : Hid (∀ W, Calls Try.prog 63 #[.string (T.extract (p + 1) T.size), .int .i64 6] W fun e w' => e = .returned (.tuple #[.int .i64 n2, .bool true]) ∧ W = w')) (hn2 : 0 ≤ n2 ∧ n2 ≤ 1000000) (hpl6 : (T.size : Int) - (p : Int) - 1 ≤ 6) (X Y : Int) (hY0 : 0 ≤ Y ∧ Y ≤ 1000000000000000000) (hY : wrap64 (n1 * p10 ((T.size : Int) - (p : Int) - 1)) = Y) (hX : wrap64 (g * (Y + n2)) = X) (x : Int) (y : Nat) (GL : Hid (∀ W, Calls Try.prog 66 #[.agg #[.int .i64 X, .int .i64 ((T.size : Int) - (p : Int) - 1)]] W fun e w' => e = .returned (.agg #[.int .i64 x, .int .i64 (y : Int)]) ∧ Below W.heap.size W w')) (hx : 100000000 < x) (w : World) :
    Calls Try.prog 40 #[.string s] w fun e w' => e = .returned (.tuple #[.agg #[.int .i64 0, .int .i64 0], .int .i64 2]) ∧ Below w.heap.size w w' := by
  have HH := Lib.hid hH
  clear hH
  obtain ⟨B, hB⟩ : ∃ B : Bool, (B = true ∧ 0 < s.size ∧ T = s.extract 1 s.size ∧ g = -1 ∧ ∃ h0 : 0 < s.size, s[0] = 45) ∨ (B = false ∧ T = s ∧ g = 1 ∧ ((∃ h0 : 0 < s.size, s[0] ≠ 45) ∨ s = ⟨#[]⟩)) := by
    rcases HH.out with ⟨h0, a, b, c⟩ | ⟨h0, a, b, c⟩ | ⟨a, b, c⟩
    · exact ⟨true, .inl ⟨rfl, h0, b, c, h0, a⟩⟩
    · exact ⟨false, .inr ⟨rfl, b, c, .inl ⟨h0, a⟩⟩⟩
    · exact ⟨false, .inr ⟨rfl, b, c, .inr a⟩⟩
  have HB := Lib.hid hB
  clear hB
  go_enter Try.func40, Try.ntmps40
  go_upto_region 2 with (fail)
  go_cut [19] (fun s19 wx => s19 = .bool B ∧ wx = w.alloc (.cells #[.int .i64 0, .int .i64 0] 59))
  case first =>
    rcases HB.out with ⟨b1, b2, -, -, _, b3⟩ | ⟨b1, -, -, ⟨b2, b3⟩ | b3⟩
    · subst b1
      have h1 := fxnot_empty s b2
      have h2 : ((s[0].toNat : Int) == 45) = true := by rw [b3]; rfl
      clear HB HH b3
      go_wp2_with (fail)
      go_meet
      exact ⟨rfl, rfl⟩
    · subst b1
      have h1 := fxnot_empty s b2
      have h2 : ((s[0].toNat : Int) == 45) = false := by
        apply beq_eq_false_iff_ne.2
        intro e
        exact b3 (UInt8.toNat_inj.1 (by show s[0].toNat = 45; omega))
      clear HB HH b3
      go_wp2_with (fail)
      go_meet
      exact ⟨rfl, rfl⟩
    · subst b1
      clear HB HH
      subst b3
      go_wp2_with (fail)
      go_meet
      exact ⟨rfl, rfl⟩
  case rest =>
  obtain ⟨rfl, rfl⟩ := hcut
  go_upto_if 19 with (fail)
  go_cut [0, 4] (fun s0 s4 wx => s0 = .string T ∧ s4 = .int .i64 g ∧ wx = w.alloc (.cells #[.int .i64 0, .int .i64 0] 59))
  case first =>
    rcases HB.out with ⟨b1, b2, b4, b5, -⟩ | ⟨b1, b4, b5, -⟩
    · subst b1
      have B4 := Lib.hid b4
      have B5 := Lib.hid b5
      clear HB HH b4 b5
      go_wp2_with (fail)
      go_meet
      exact ⟨by rw [B4.out], by rw [B5.out], rfl⟩
    · subst b1
      have B4 := Lib.hid b4
      have B5 := Lib.hid b5
      clear HB HH b4 b5
      go_wp2_with (fail)
      go_meet
      exact ⟨by rw [B4.out], by rw [B5.out], rfl⟩
  case rest =>
  obtain ⟨rfl, rfl, rfl⟩ := hcut
  clear HB HH
  go_wp2
  go_loop [5, 6] (fun v i => ∃ k : Nat, k ≤ T.size ∧ i = .int .i64 ((k : Int) - 1) ∧ v = .int .i64 (pt T.data.toList k : Nat)) (fun _ i => (intOf i + 1).toNat)
  case atStart => exact ⟨T.size, Nat.le_refl _, rfl, by rw [show T.size = T.data.toList.length from Array.length_toList.symm, pt_end]⟩
  case round =>
    obtain ⟨k, hk, rfl, rfl⟩ := hrel
    by_cases hk0 : 0 < k
    · obtain ⟨j, rfl⟩ : ∃ j, k = j + 1 := ⟨k - 1, by omega⟩
      have hlt : j < T.size := by omega
      have hget : T.data.toList[j]? = some T[j] := by
        have h' : j < T.data.toList.length := by simpa using hlt
        rw [List.getElem?_eq_getElem h']; rfl
      rw [show ((j + 1 : Nat) : Int) - 1 = (j : Int) from by omega]
      obtain ⟨q, hq⟩ : ∃ q, q = pt T.data.toList (j + 1) := ⟨_, rfl⟩
      rw [← hq]
      by_cases hc : T[j] = 46
      · have HP : Hid (pt T.data.toList j = j) := by rw [hc] at hget; exact pt_hit hget
        have hc' : ((T[j].toNat : Int) == 46) = true := by rw [hc]; rfl
        clear hc hget hq
        go_wp2
        go_round
        case rel => exact ⟨j, by omega, rfl, by rw [HP.out]⟩
        case measure => simp [intOf]
      · have HP : Hid (pt T.data.toList j = q) := by rw [hq]; exact pt_miss hget hc
        have hc' : ((T[j].toNat : Int) == 46) = false := beq_eq_false_iff_ne.2 (fun e => hc (UInt8.toNat_inj.1 (by show T[j].toNat = 46; omega)))
        clear hc hget hq
        go_wp2
        go_round
        case rel => exact ⟨j, by omega, rfl, by rw [HP.out]⟩
        case measure => simp [intOf]
    · obtain rfl : k = 0 := by omega
      rw [show ((0 : Nat) : Int) - 1 = (-1 : Int) from rfl]
      rw [show pt T.data.toList 0 = p from HP.out.symm]
      clear hk hk0
      go_wp2_with (go_at_call 63; (with_reducible refine (G1.out _).mono ?_); rintro e w1 ⟨rfl, rfl⟩)
      go_wp2_with (first | (go_at_call 63; (with_reducible refine (G2.out _).mono ?_); rintro e w1 ⟨rfl, rfl⟩) | (go_at_call 44; refine (Try.rtens_int _ (by omega) (by omega) _).mono ?_; rintro e w1 ⟨rfl, rfl⟩))
      go_wp2_with (go_at_call 66; refine (GL.out _).mono ?_; rintro e w1 ⟨rfl, hb⟩; obtain ⟨hc, hf⟩ := bcell hb; have hz : w.heap.size < w1.heap.size := by have := hb.size; simp at this; omega)
      have hq := cells_past hz ((hc w.heap.size 0 (by simp)).trans (by simp [go_sem] : _ = some (.int .i64 0))) ((hc w.heap.size 1 (by simp)).trans (by simp [go_sem] : _ = some (.int .i64 0))) (.int .i64 0) (.int .i64 0) (.cells #[.int .i64 x, .int .i64 (y : Int)] 59)
      refine bodyPost_ret (v := .tuple #[.agg #[.int .i64 0, .int .i64 0], .int .i64 2]) (by simp [results, Try.results40, go_sem, hq.1, hq.2]) rfl ⟨rfl, ?_⟩
      exact (((((Below.refl _ w).alloc (Nat.le_refl _) _).trans (hb.mono (by simp))).setCell (Nat.le_refl _) _).setCell (Nat.le_refl _) _).alloc (by simp [World.setCell]; omega) _

end Go.Proofs
