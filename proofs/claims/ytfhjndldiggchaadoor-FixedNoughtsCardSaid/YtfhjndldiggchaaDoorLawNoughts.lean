/- The law FixedNoughts, as a contract. Conditions: the integers that an int32 and a byte hold; the table of powers of ten holds what the card lays. -/
import Derived.Test.YtfhjndldiggchaaDoorNoughts
import Derived.Test.YtfhjndldiggchaaDoorLawPrintsAll
namespace Go.Proofs
open Go.RowKit Go.Fx
attribute [local go_sem] Oper.semAt_some
attribute [local go_sem ↓] Go.wp_at_zero Go.wp_at_succ

/-- The three numbers' boxes, and what was there. -/
def Trio (w : World) (b c : Nat) (m s l n : Value) (W : World) : Prop := Pair W w.heap.size 27 m s ∧ Pair W b 27 l n ∧ Pair W c 27 l n ∧ Below w.heap.size w W
/-- What the region holds. -/
def TrioS (w : World) (b c : Nat) (m s l n : Value) (W : World) : Prop :=
  W.cell? ⟨w.heap.size, 0, none⟩ = some m ∧ W.cell? ⟨w.heap.size, 1, none⟩ = some s ∧ W.cell? ⟨b, 0, none⟩ = some l ∧ W.cell? ⟨b, 1, none⟩ = some n ∧ W.cell? ⟨c, 0, none⟩ = some l ∧ W.cell? ⟨c, 1, none⟩ = some n ∧ Trio w b c m s l n W
theorem trio_S {w : World} {b c : Nat} {m s l n : Value} {W : World} (h : Trio w b c m s l n W) : TrioS w b c m s l n W := ⟨h.1.c0, h.1.c1, h.2.1.c0, h.2.1.c1, h.2.2.1.c0, h.2.2.1.c1, h⟩
theorem Trio.next {w : World} {b c : Nat} {m s l n : Value} {W W' : World} (h : Trio w b c m s l n W) (hb : Below W.heap.size W W') : Trio w b c m s l n W' :=
  ⟨h.1.next hb, h.2.1.next hb, h.2.2.1.next hb, Below.next h.2.2.2 (Nat.le_refl _) hb⟩
theorem Trio.drew {w : World} {b c : Nat} {m s l n : Value} {W : World} (h : Trio w b c m s l n W) : Trio w b c m s l n W.drew := ⟨h.1, h.2.1, h.2.2.1, h.2.2.2.drew⟩

set_option maxRecDepth 100000 in
set_option maxHeartbeats 4000000 in
theorem Tryd.Noughts_pos (m s x y l N : Int) (n S A B : Nat) (L1 L2 : List UInt8) (hM : m.tdiv 32 = (n : Int)) (hS : s % 4 = (S : Int)) (hA : x % 4 = (A : Int)) (hB : y % 3 = (B : Int)) (hn : n ≤ 67108864) (hS1 : 1 ≤ S)
    (hm : -2147483648 ≤ m) (hm2 : m ≤ 2147483647) (hs : 0 ≤ s) (hs2 : s ≤ 255) (hx : 0 ≤ x) (hx2 : x ≤ 255) (hy : 0 ≤ y) (hy2 : y ≤ 255) (hA3 : A ≤ 3) (hL2 : L2.length ≤ 100)
    (GP1 : Hid (∀ W, Tab W → Calls Tryd.prog 16 #[.agg #[.int .i64 (n : Int), .int .i64 (S : Int)]] W fun e w' => e = .returned (.string ⟨L1.toArray⟩) ∧ Below W.heap.size W w'))
    (GP2 : Hid (∀ W, Tab W → Calls Tryd.prog 16 #[.agg #[.int .i64 (n : Int), .int .i64 (S : Int)]] W fun e w' => e = .returned (.string ⟨L2.toArray⟩) ∧ Below W.heap.size W w'))
    (GR1 : Hid (∀ W, Calls Tryd.prog 13 #[.string ⟨L1.toArray⟩] W fun e w' => e = .returned (.tuple #[.agg #[.int .i64 l, .int .i64 N], .int .i64 0]) ∧ Below W.heap.size W w'))
    (GR2 : Hid (∀ W, Calls Tryd.prog 13 #[.string ⟨(List.replicate A 48 ++ L2 ++ List.replicate (1 + B) 48).toArray⟩] W fun e w' => e = .returned (.tuple #[.agg #[.int .i64 l, .int .i64 N], .int .i64 0]) ∧ Below W.heap.size W w'))
    (GL : Hid (∀ W, Calls Tryd.prog 18 #[.agg #[.int .i64 (n : Int), .int .i64 (S : Int)]] W fun e w' => e = .returned (.agg #[.int .i64 l, .int .i64 N]) ∧ Below W.heap.size W w'))
    (w : World) (ht : Tab w) :
    Calls Tryd.prog 8 #[.int .i32 m, .int .u8 s, .int .u8 x, .int .u8 y] w fun e w' => e = .returned (.bool true) ∧ Below w.heap.size w w' := by
  have HS : Hid (∀ W, Tab W → Calls Tryd.prog 10 #[] W fun e w' => e = .returned (.bool true) ∧ Below W.heap.size W w') := fun W h => Tryd.shown_any W h
  have HT := Lib.hid ht
  have p0 := Pair.new w 27 (.int .i64 (n : Int)) (.int .i64 (S : Int))
  have k0 := (Below.refl _ w).alloc (Nat.le_refl _) (.cells #[.int .i64 (n : Int), .int .i64 (S : Int)] 27)
  have hmax : max (n : Int) (-(n : Int)) = (n : Int) := by omega
  have hS0 : ((S : Int) == 0) = false := beq_eq_false_iff_ne.2 (by omega)
  have hS2 : ¬ S = 0 := by omega
  clear ht
  go_enter Tryd.func8, Tryd.ntmps8
  go_wp2_with (go_at_call 10; (with_reducible refine (HS.out _ (HT.out.below k0)).mono ?_); rintro e w1 ⟨rfl, hb⟩; have k1 := Below.next k0 (Nat.le_refl _) hb; have p1 := Pair.next p0 hb; clear p0 k0 hb; have c0 := p1.c0; have c1 := p1.c1)
  go_wp2_with (go_at_call 16; (with_reducible refine (GP1.out _ (HT.out.below k1)).mono ?_); rintro e w2 ⟨rfl, hb⟩; have k2 := Below.next k1 (Nat.le_refl _) hb; have p2 := Pair.next p1 hb; clear p1 k1 hb c0 c1; have c0 := p2.c0; have c1 := p2.c1)
  go_wp2_with (go_at_call 13; (with_reducible refine (GR1.out _).mono ?_); rintro e w3 ⟨rfl, hb⟩; have k3 := Below.next k2 (Nat.le_refl _) hb; have p3 := Pair.next p2 hb; clear p2 k2 hb c0 c1; have kL := Below.alloc k3 k3.size (.cells #[.int .i64 l, .int .i64 N] 27); have q3 := Pair.new w3 27 (.int .i64 l) (.int .i64 N); have pL := Pair.next p3 (Below.alloc (Below.refl w3.heap.size w3) (Nat.le_refl _) (.cells #[.int .i64 l, .int .i64 N] 27)); clear p3 k3; have c0 := pL.c0; have c1 := pL.c1)
  go_wp2_with (go_at_call 16; (with_reducible refine (GP2.out _ (HT.out.below kL)).mono ?_); rintro e w4 ⟨rfl, hb⟩; have k4 := Below.next kL (Nat.le_refl _) hb; have p4 := Pair.next pL hb; have q4 := Pair.next q3 hb; clear pL q3 kL hb c0 c1; have c0 := p4.c0; have c1 := p4.c1; have z4 := p4.lt)
  clear hmax hM hS
  go_loopg [12, 13] 4 (fun g v12 v13 wr => ∃ (i : Nat) (r : List UInt8), g = 4 - i ∧ i ≤ A ∧ v12 = .string ⟨r.toArray⟩ ∧ v13 = .int .i64 (i : Int) ∧ w4 = wr ∧ r.length ≤ 110 + i ∧ Hid (r = List.replicate i 48 ++ L2))
  case atStart => exact ⟨0, L2, rfl, by omega, rfl, rfl, rfl, by omega, by unfold Hid; rfl⟩
  case round =>
    obtain ⟨i, r, rfl, hi, rfl, rfl, rfl, hr, HR⟩ := hrel
    by_cases h1 : i < A
    · go_wp2
      go_roundg (4 - (i + 1))
      case measure => omega
      case rel => exact ⟨i + 1, 48 :: r, rfl, by omega, by rw [show (⟨#[48]⟩ : ByteArray) = ⟨[(48 : UInt8)].toArray⟩ from rfl, cat]; rfl, by go_num, rfl, by simp; omega, by unfold Hid; rw [HR.out]; rfl⟩
    · obtain rfl : i = A := by omega
      clear h1 hi
      go_wp2
      go_loopg [12, 14] 4 (fun g v12 v14 wr => ∃ (j : Nat) (r : List UInt8), g = 4 - j ∧ j ≤ 1 + B ∧ v12 = .string ⟨r.toArray⟩ ∧ v14 = .int .i64 (j : Int) ∧ w4 = wr ∧ r.length ≤ 120 + j ∧ Hid (r = List.replicate i 48 ++ L2 ++ List.replicate j 48))
      case atStart => exact ⟨0, r, rfl, by omega, rfl, rfl, rfl, by omega, by unfold Hid; rw [HR.out]; simp⟩
      case round =>
        clear HR hr
        obtain ⟨j, r, rfl, hj, rfl, rfl, rfl, hr, HR⟩ := hrel
        by_cases h1 : j < 1 + B
        · go_wp2
          go_roundg (4 - (j + 1))
          case measure => omega
          case rel => exact ⟨j + 1, r ++ [48], rfl, by omega, by rw [show (⟨#[48]⟩ : ByteArray) = ⟨[(48 : UInt8)].toArray⟩ from rfl, cat], by go_num, rfl, by simp; omega, by unfold Hid; rw [HR.out, List.replicate_succ', List.append_assoc _ (List.replicate j 48)]⟩
        · obtain rfl : j = 1 + B := by omega
          have GR3 : Hid (∀ W, Calls Tryd.prog 13 #[.string ⟨r.toArray⟩] W fun e w' => e = .returned (.tuple #[.agg #[.int .i64 l, .int .i64 N], .int .i64 0]) ∧ Below W.heap.size W w') := by rw [HR.out]; exact GR2
          clear h1 hj HR GR2
          go_wp2_with (go_at_call 13; (with_reducible refine (GR3.out _).mono ?_); rintro e w5 ⟨rfl, hb⟩; have k5 := Below.next k4 (Nat.le_refl _) hb; have p5 := Pair.next p4 hb; have q5 := Pair.next q4 hb; clear p4 q4 k4 hb c0 c1)
          have hS := trio_S (show Trio w w3.heap.size w5.heap.size (.int .i64 (n : Int)) (.int .i64 (S : Int)) (.int .i64 l) (.int .i64 N) (w5.alloc (.cells #[.int .i64 l, .int .i64 N] 27)) from ⟨p5.next (Below.alloc (Below.refl _ _) (Nat.le_refl _) _), q5.next (Below.alloc (Below.refl _ _) (Nat.le_refl _) _), Pair.new w5 27 (.int .i64 l) (.int .i64 N), Below.alloc k5 k5.size _⟩)
          unfold TrioS at hS
          clear p5 q5 k5 HS HT GP1 GP2 GR1 GR3 z4 hr
          go_region_held3 (fun W => W.cell? ⟨w.heap.size, 0, none⟩ = some (.int .i64 (n : Int)) ∧ W.cell? ⟨w.heap.size, 1, none⟩ = some (.int .i64 (S : Int)) ∧ W.cell? ⟨w3.heap.size, 0, none⟩ = some (.int .i64 l) ∧ W.cell? ⟨w3.heap.size, 1, none⟩ = some (.int .i64 N) ∧ W.cell? ⟨w5.heap.size, 0, none⟩ = some (.int .i64 l) ∧ W.cell? ⟨w5.heap.size, 1, none⟩ = some (.int .i64 N) ∧ Trio w w3.heap.size w5.heap.size (.int .i64 (n : Int)) (.int .i64 (S : Int)) (.int .i64 l) (.int .i64 N) W)
            ((go_split_ands; (first | exact trio_S (by assumption) | exact trio_S (Trio.drew (by assumption)) | exact trio_S (Trio.next (by assumption) (by assumption)))))
            ((go_at_call 18; (with_reducible refine (GL.out _).mono ?_); rintro e w' ⟨rfl, hb⟩))
          have T6 := (show _ ∧ _ ∧ _ ∧ _ ∧ _ ∧ _ ∧ Trio w w3.heap.size w5.heap.size (.int .i64 (n : Int)) (.int .i64 (S : Int)) (.int .i64 l) (.int .i64 N) w' by assumption).2.2.2.2.2.2
          clear hS
          go_wp2
          go_ret
          exact ⟨rfl, T6.2.2.2⟩
#print axioms Tryd.Noughts_pos

set_option maxRecDepth 100000 in
set_option maxHeartbeats 4000000 in
theorem Tryd.Noughts_pos0 (m s x y l N : Int) (n A B : Nat) (L1 L2 : List UInt8) (hM : m.tdiv 32 = (n : Int)) (hS : s % 4 = 0) (hA : x % 4 = (A : Int)) (hB : y % 3 = (B : Int)) (hn : n ≤ 67108864)
    (hm : -2147483648 ≤ m) (hm2 : m ≤ 2147483647) (hs : 0 ≤ s) (hs2 : s ≤ 255) (hx : 0 ≤ x) (hx2 : x ≤ 255) (hy : 0 ≤ y) (hy2 : y ≤ 255) (hA3 : A ≤ 3) (hL2 : L2.length ≤ 100)
    (GP1 : Hid (∀ W, Tab W → Calls Tryd.prog 16 #[.agg #[.int .i64 (n : Int), .int .i64 0]] W fun e w' => e = .returned (.string ⟨L1.toArray⟩) ∧ Below W.heap.size W w'))
    (GP2 : Hid (∀ W, Tab W → Calls Tryd.prog 16 #[.agg #[.int .i64 (n : Int), .int .i64 0]] W fun e w' => e = .returned (.string ⟨L2.toArray⟩) ∧ Below W.heap.size W w'))
    (GR1 : Hid (∀ W, Calls Tryd.prog 13 #[.string ⟨L1.toArray⟩] W fun e w' => e = .returned (.tuple #[.agg #[.int .i64 l, .int .i64 N], .int .i64 0]) ∧ Below W.heap.size W w'))
    (GR2 : Hid (∀ W, Calls Tryd.prog 13 #[.string ⟨(List.replicate A 48 ++ (L2 ++ [46]) ++ List.replicate (1 + B) 48).toArray⟩] W fun e w' => e = .returned (.tuple #[.agg #[.int .i64 l, .int .i64 N], .int .i64 0]) ∧ Below W.heap.size W w'))
    (GL : Hid (∀ W, Calls Tryd.prog 18 #[.agg #[.int .i64 (n : Int), .int .i64 0]] W fun e w' => e = .returned (.agg #[.int .i64 l, .int .i64 N]) ∧ Below W.heap.size W w'))
    (w : World) (ht : Tab w) :
    Calls Tryd.prog 8 #[.int .i32 m, .int .u8 s, .int .u8 x, .int .u8 y] w fun e w' => e = .returned (.bool true) ∧ Below w.heap.size w w' := by
  have HS : Hid (∀ W, Tab W → Calls Tryd.prog 10 #[] W fun e w' => e = .returned (.bool true) ∧ Below W.heap.size W w') := fun W h => Tryd.shown_any W h
  have HT := Lib.hid ht
  have p0 := Pair.new w 27 (.int .i64 (n : Int)) (.int .i64 0)
  have k0 := (Below.refl _ w).alloc (Nat.le_refl _) (.cells #[.int .i64 (n : Int), .int .i64 0] 27)
  have hmax : max (n : Int) (-(n : Int)) = (n : Int) := by omega
  
  
  clear ht
  go_enter Tryd.func8, Tryd.ntmps8
  go_wp2_with (go_at_call 10; (with_reducible refine (HS.out _ (HT.out.below k0)).mono ?_); rintro e w1 ⟨rfl, hb⟩; have k1 := Below.next k0 (Nat.le_refl _) hb; have p1 := Pair.next p0 hb; clear p0 k0 hb; have c0 := p1.c0; have c1 := p1.c1)
  go_wp2_with (go_at_call 16; (with_reducible refine (GP1.out _ (HT.out.below k1)).mono ?_); rintro e w2 ⟨rfl, hb⟩; have k2 := Below.next k1 (Nat.le_refl _) hb; have p2 := Pair.next p1 hb; clear p1 k1 hb c0 c1; have c0 := p2.c0; have c1 := p2.c1)
  go_wp2_with (go_at_call 13; (with_reducible refine (GR1.out _).mono ?_); rintro e w3 ⟨rfl, hb⟩; have k3 := Below.next k2 (Nat.le_refl _) hb; have p3 := Pair.next p2 hb; clear p2 k2 hb c0 c1; have kL := Below.alloc k3 k3.size (.cells #[.int .i64 l, .int .i64 N] 27); have q3 := Pair.new w3 27 (.int .i64 l) (.int .i64 N); have pL := Pair.next p3 (Below.alloc (Below.refl w3.heap.size w3) (Nat.le_refl _) (.cells #[.int .i64 l, .int .i64 N] 27)); clear p3 k3; have c0 := pL.c0; have c1 := pL.c1)
  go_wp2_with (go_at_call 16; (with_reducible refine (GP2.out _ (HT.out.below kL)).mono ?_); rintro e w4 ⟨rfl, hb⟩; have k4 := Below.next kL (Nat.le_refl _) hb; have p4 := Pair.next pL hb; have q4 := Pair.next q3 hb; clear pL q3 kL hb c0 c1; have c0 := p4.c0; have c1 := p4.c1; have z4 := p4.lt)
  clear hmax hM hS
  go_loopg [12, 13] 4 (fun g v12 v13 wr => ∃ (i : Nat) (r : List UInt8), g = 4 - i ∧ i ≤ A ∧ v12 = .string ⟨r.toArray⟩ ∧ v13 = .int .i64 (i : Int) ∧ w4 = wr ∧ r.length ≤ 110 + i ∧ Hid (r = List.replicate i 48 ++ (L2 ++ [46])))
  case atStart => exact ⟨0, (L2 ++ [46]), rfl, by omega, by rw [show (⟨#[46]⟩ : ByteArray) = ⟨[(46 : UInt8)].toArray⟩ from rfl, cat], rfl, rfl, by simp; omega, by unfold Hid; rfl⟩
  case round =>
    obtain ⟨i, r, rfl, hi, rfl, rfl, rfl, hr, HR⟩ := hrel
    by_cases h1 : i < A
    · go_wp2
      go_roundg (4 - (i + 1))
      case measure => omega
      case rel => exact ⟨i + 1, 48 :: r, rfl, by omega, by rw [show (⟨#[48]⟩ : ByteArray) = ⟨[(48 : UInt8)].toArray⟩ from rfl, cat]; rfl, by go_num, rfl, by simp; omega, by unfold Hid; rw [HR.out]; rfl⟩
    · obtain rfl : i = A := by omega
      clear h1 hi
      go_wp2
      go_loopg [12, 14] 4 (fun g v12 v14 wr => ∃ (j : Nat) (r : List UInt8), g = 4 - j ∧ j ≤ 1 + B ∧ v12 = .string ⟨r.toArray⟩ ∧ v14 = .int .i64 (j : Int) ∧ w4 = wr ∧ r.length ≤ 120 + j ∧ Hid (r = List.replicate i 48 ++ (L2 ++ [46]) ++ List.replicate j 48))
      case atStart => exact ⟨0, r, rfl, by omega, rfl, rfl, rfl, by omega, by unfold Hid; rw [HR.out]; simp⟩
      case round =>
        clear HR hr
        obtain ⟨j, r, rfl, hj, rfl, rfl, rfl, hr, HR⟩ := hrel
        by_cases h1 : j < 1 + B
        · go_wp2
          go_roundg (4 - (j + 1))
          case measure => omega
          case rel => exact ⟨j + 1, r ++ [48], rfl, by omega, by rw [show (⟨#[48]⟩ : ByteArray) = ⟨[(48 : UInt8)].toArray⟩ from rfl, cat], by go_num, rfl, by simp; omega, by unfold Hid; rw [HR.out, List.replicate_succ', List.append_assoc _ (List.replicate j 48)]⟩
        · obtain rfl : j = 1 + B := by omega
          have GR3 : Hid (∀ W, Calls Tryd.prog 13 #[.string ⟨r.toArray⟩] W fun e w' => e = .returned (.tuple #[.agg #[.int .i64 l, .int .i64 N], .int .i64 0]) ∧ Below W.heap.size W w') := by rw [HR.out]; exact GR2
          clear h1 hj HR GR2
          go_wp2_with (go_at_call 13; (with_reducible refine (GR3.out _).mono ?_); rintro e w5 ⟨rfl, hb⟩; have k5 := Below.next k4 (Nat.le_refl _) hb; have p5 := Pair.next p4 hb; have q5 := Pair.next q4 hb; clear p4 q4 k4 hb c0 c1)
          have hS := trio_S (show Trio w w3.heap.size w5.heap.size (.int .i64 (n : Int)) (.int .i64 0) (.int .i64 l) (.int .i64 N) (w5.alloc (.cells #[.int .i64 l, .int .i64 N] 27)) from ⟨p5.next (Below.alloc (Below.refl _ _) (Nat.le_refl _) _), q5.next (Below.alloc (Below.refl _ _) (Nat.le_refl _) _), Pair.new w5 27 (.int .i64 l) (.int .i64 N), Below.alloc k5 k5.size _⟩)
          unfold TrioS at hS
          clear p5 q5 k5 HS HT GP1 GP2 GR1 GR3 z4 hr
          go_region_held3 (fun W => W.cell? ⟨w.heap.size, 0, none⟩ = some (.int .i64 (n : Int)) ∧ W.cell? ⟨w.heap.size, 1, none⟩ = some (.int .i64 0) ∧ W.cell? ⟨w3.heap.size, 0, none⟩ = some (.int .i64 l) ∧ W.cell? ⟨w3.heap.size, 1, none⟩ = some (.int .i64 N) ∧ W.cell? ⟨w5.heap.size, 0, none⟩ = some (.int .i64 l) ∧ W.cell? ⟨w5.heap.size, 1, none⟩ = some (.int .i64 N) ∧ Trio w w3.heap.size w5.heap.size (.int .i64 (n : Int)) (.int .i64 0) (.int .i64 l) (.int .i64 N) W)
            ((go_split_ands; (first | exact trio_S (by assumption) | exact trio_S (Trio.drew (by assumption)) | exact trio_S (Trio.next (by assumption) (by assumption)))))
            ((go_at_call 18; (with_reducible refine (GL.out _).mono ?_); rintro e w' ⟨rfl, hb⟩))
          have T6 := (show _ ∧ _ ∧ _ ∧ _ ∧ _ ∧ _ ∧ Trio w w3.heap.size w5.heap.size (.int .i64 (n : Int)) (.int .i64 0) (.int .i64 l) (.int .i64 N) w' by assumption).2.2.2.2.2.2
          clear hS
          go_wp2
          go_ret
          exact ⟨rfl, T6.2.2.2⟩
#print axioms Tryd.Noughts_pos0

set_option maxRecDepth 100000 in
set_option maxHeartbeats 4000000 in
theorem Tryd.Noughts_neg (m s x y l N : Int) (n S A B : Nat) (L1 L2 : List UInt8) (hM : m.tdiv 32 = (-(n : Int))) (hS : s % 4 = (S : Int)) (hA : x % 4 = (A : Int)) (hB : y % 3 = (B : Int)) (hn : n ≤ 67108864) (hn1 : 1 ≤ n) (hS1 : 1 ≤ S)
    (hm : -2147483648 ≤ m) (hm2 : m ≤ 2147483647) (hs : 0 ≤ s) (hs2 : s ≤ 255) (hx : 0 ≤ x) (hx2 : x ≤ 255) (hy : 0 ≤ y) (hy2 : y ≤ 255) (hA3 : A ≤ 3) (hL2 : L2.length ≤ 100)
    (GP1 : Hid (∀ W, Tab W → Calls Tryd.prog 16 #[.agg #[.int .i64 (-(n : Int)), .int .i64 (S : Int)]] W fun e w' => e = .returned (.string ⟨L1.toArray⟩) ∧ Below W.heap.size W w'))
    (GP2 : Hid (∀ W, Tab W → Calls Tryd.prog 16 #[.agg #[.int .i64 (n : Int), .int .i64 (S : Int)]] W fun e w' => e = .returned (.string ⟨L2.toArray⟩) ∧ Below W.heap.size W w'))
    (GR1 : Hid (∀ W, Calls Tryd.prog 13 #[.string ⟨L1.toArray⟩] W fun e w' => e = .returned (.tuple #[.agg #[.int .i64 l, .int .i64 N], .int .i64 0]) ∧ Below W.heap.size W w'))
    (GR2 : Hid (∀ W, Calls Tryd.prog 13 #[.string (⟨#[45]⟩ ++ ⟨(List.replicate A 48 ++ L2 ++ List.replicate (1 + B) 48).toArray⟩)] W fun e w' => e = .returned (.tuple #[.agg #[.int .i64 l, .int .i64 N], .int .i64 0]) ∧ Below W.heap.size W w'))
    (GL : Hid (∀ W, Calls Tryd.prog 18 #[.agg #[.int .i64 (-(n : Int)), .int .i64 (S : Int)]] W fun e w' => e = .returned (.agg #[.int .i64 l, .int .i64 N]) ∧ Below W.heap.size W w'))
    (w : World) (ht : Tab w) :
    Calls Tryd.prog 8 #[.int .i32 m, .int .u8 s, .int .u8 x, .int .u8 y] w fun e w' => e = .returned (.bool true) ∧ Below w.heap.size w w' := by
  have HS : Hid (∀ W, Tab W → Calls Tryd.prog 10 #[] W fun e w' => e = .returned (.bool true) ∧ Below W.heap.size W w') := fun W h => Tryd.shown_any W h
  have HT := Lib.hid ht
  have p0 := Pair.new w 27 (.int .i64 (-(n : Int))) (.int .i64 (S : Int))
  have k0 := (Below.refl _ w).alloc (Nat.le_refl _) (.cells #[.int .i64 (-(n : Int)), .int .i64 (S : Int)] 27)
  have hmax : max (-(n : Int)) (n : Int) = (n : Int) := by omega
  have hS0 : ((S : Int) == 0) = false := beq_eq_false_iff_ne.2 (by omega)
  have hS2 : ¬ S = 0 := by omega
  clear ht
  go_enter Tryd.func8, Tryd.ntmps8
  go_wp2_with (go_at_call 10; (with_reducible refine (HS.out _ (HT.out.below k0)).mono ?_); rintro e w1 ⟨rfl, hb⟩; have k1 := Below.next k0 (Nat.le_refl _) hb; have p1 := Pair.next p0 hb; clear p0 k0 hb; have c0 := p1.c0; have c1 := p1.c1)
  go_wp2_with (go_at_call 16; (with_reducible refine (GP1.out _ (HT.out.below k1)).mono ?_); rintro e w2 ⟨rfl, hb⟩; have k2 := Below.next k1 (Nat.le_refl _) hb; have p2 := Pair.next p1 hb; clear p1 k1 hb c0 c1; have c0 := p2.c0; have c1 := p2.c1)
  go_wp2_with (go_at_call 13; (with_reducible refine (GR1.out _).mono ?_); rintro e w3 ⟨rfl, hb⟩; have k3 := Below.next k2 (Nat.le_refl _) hb; have p3 := Pair.next p2 hb; clear p2 k2 hb c0 c1; have kL := Below.alloc k3 k3.size (.cells #[.int .i64 l, .int .i64 N] 27); have q3 := Pair.new w3 27 (.int .i64 l) (.int .i64 N); have pL := Pair.next p3 (Below.alloc (Below.refl w3.heap.size w3) (Nat.le_refl _) (.cells #[.int .i64 l, .int .i64 N] 27)); clear p3 k3; have c0 := pL.c0; have c1 := pL.c1)
  go_wp2_with (go_at_call 16; (with_reducible refine (GP2.out _ (HT.out.below kL)).mono ?_); rintro e w4 ⟨rfl, hb⟩; have k4 := Below.next kL (Nat.le_refl _) hb; have p4 := Pair.next pL hb; have q4 := Pair.next q3 hb; clear pL q3 kL hb c0 c1; have c0 := p4.c0; have c1 := p4.c1; have z4 := p4.lt)
  clear hmax hM hS
  go_loopg [12, 13] 4 (fun g v12 v13 wr => ∃ (i : Nat) (r : List UInt8), g = 4 - i ∧ i ≤ A ∧ v12 = .string ⟨r.toArray⟩ ∧ v13 = .int .i64 (i : Int) ∧ w4 = wr ∧ r.length ≤ 110 + i ∧ Hid (r = List.replicate i 48 ++ L2))
  case atStart => exact ⟨0, L2, rfl, by omega, rfl, rfl, rfl, by omega, by unfold Hid; rfl⟩
  case round =>
    obtain ⟨i, r, rfl, hi, rfl, rfl, rfl, hr, HR⟩ := hrel
    by_cases h1 : i < A
    · go_wp2
      go_roundg (4 - (i + 1))
      case measure => omega
      case rel => exact ⟨i + 1, 48 :: r, rfl, by omega, by rw [show (⟨#[48]⟩ : ByteArray) = ⟨[(48 : UInt8)].toArray⟩ from rfl, cat]; rfl, by go_num, rfl, by simp; omega, by unfold Hid; rw [HR.out]; rfl⟩
    · obtain rfl : i = A := by omega
      clear h1 hi
      go_wp2
      go_loopg [12, 14] 4 (fun g v12 v14 wr => ∃ (j : Nat) (r : List UInt8), g = 4 - j ∧ j ≤ 1 + B ∧ v12 = .string ⟨r.toArray⟩ ∧ v14 = .int .i64 (j : Int) ∧ w4 = wr ∧ r.length ≤ 120 + j ∧ Hid (r = List.replicate i 48 ++ L2 ++ List.replicate j 48))
      case atStart => exact ⟨0, r, rfl, by omega, rfl, rfl, rfl, by omega, by unfold Hid; rw [HR.out]; simp⟩
      case round =>
        clear HR hr
        obtain ⟨j, r, rfl, hj, rfl, rfl, rfl, hr, HR⟩ := hrel
        by_cases h1 : j < 1 + B
        · go_wp2
          go_roundg (4 - (j + 1))
          case measure => omega
          case rel => exact ⟨j + 1, r ++ [48], rfl, by omega, by rw [show (⟨#[48]⟩ : ByteArray) = ⟨[(48 : UInt8)].toArray⟩ from rfl, cat], by go_num, rfl, by simp; omega, by unfold Hid; rw [HR.out, List.replicate_succ', List.append_assoc _ (List.replicate j 48)]⟩
        · obtain rfl : j = 1 + B := by omega
          have GR3 : Hid (∀ W, Calls Tryd.prog 13 #[.string (⟨#[45]⟩ ++ ⟨r.toArray⟩)] W fun e w' => e = .returned (.tuple #[.agg #[.int .i64 l, .int .i64 N], .int .i64 0]) ∧ Below W.heap.size W w') := by rw [HR.out]; exact GR2
          clear h1 hj HR GR2
          go_wp2_with (go_at_call 13; (with_reducible refine (GR3.out _).mono ?_); rintro e w5 ⟨rfl, hb⟩; have k5 := Below.next k4 (Nat.le_refl _) hb; have p5 := Pair.next p4 hb; have q5 := Pair.next q4 hb; clear p4 q4 k4 hb c0 c1)
          have hS := trio_S (show Trio w w3.heap.size w5.heap.size (.int .i64 (-(n : Int))) (.int .i64 (S : Int)) (.int .i64 l) (.int .i64 N) (w5.alloc (.cells #[.int .i64 l, .int .i64 N] 27)) from ⟨p5.next (Below.alloc (Below.refl _ _) (Nat.le_refl _) _), q5.next (Below.alloc (Below.refl _ _) (Nat.le_refl _) _), Pair.new w5 27 (.int .i64 l) (.int .i64 N), Below.alloc k5 k5.size _⟩)
          unfold TrioS at hS
          clear p5 q5 k5 HS HT GP1 GP2 GR1 GR3 z4 hr
          go_region_held3 (fun W => W.cell? ⟨w.heap.size, 0, none⟩ = some (.int .i64 (-(n : Int))) ∧ W.cell? ⟨w.heap.size, 1, none⟩ = some (.int .i64 (S : Int)) ∧ W.cell? ⟨w3.heap.size, 0, none⟩ = some (.int .i64 l) ∧ W.cell? ⟨w3.heap.size, 1, none⟩ = some (.int .i64 N) ∧ W.cell? ⟨w5.heap.size, 0, none⟩ = some (.int .i64 l) ∧ W.cell? ⟨w5.heap.size, 1, none⟩ = some (.int .i64 N) ∧ Trio w w3.heap.size w5.heap.size (.int .i64 (-(n : Int))) (.int .i64 (S : Int)) (.int .i64 l) (.int .i64 N) W)
            ((go_split_ands; (first | exact trio_S (by assumption) | exact trio_S (Trio.drew (by assumption)) | exact trio_S (Trio.next (by assumption) (by assumption)))))
            ((go_at_call 18; (with_reducible refine (GL.out _).mono ?_); rintro e w' ⟨rfl, hb⟩))
          have T6 := (show _ ∧ _ ∧ _ ∧ _ ∧ _ ∧ _ ∧ Trio w w3.heap.size w5.heap.size (.int .i64 (-(n : Int))) (.int .i64 (S : Int)) (.int .i64 l) (.int .i64 N) w' by assumption).2.2.2.2.2.2
          clear hS
          go_wp2
          go_ret
          exact ⟨rfl, T6.2.2.2⟩
#print axioms Tryd.Noughts_neg

set_option maxRecDepth 100000 in
set_option maxHeartbeats 4000000 in
theorem Tryd.Noughts_neg0 (m s x y l N : Int) (n A B : Nat) (L1 L2 : List UInt8) (hM : m.tdiv 32 = (-(n : Int))) (hS : s % 4 = 0) (hA : x % 4 = (A : Int)) (hB : y % 3 = (B : Int)) (hn : n ≤ 67108864) (hn1 : 1 ≤ n)
    (hm : -2147483648 ≤ m) (hm2 : m ≤ 2147483647) (hs : 0 ≤ s) (hs2 : s ≤ 255) (hx : 0 ≤ x) (hx2 : x ≤ 255) (hy : 0 ≤ y) (hy2 : y ≤ 255) (hA3 : A ≤ 3) (hL2 : L2.length ≤ 100)
    (GP1 : Hid (∀ W, Tab W → Calls Tryd.prog 16 #[.agg #[.int .i64 (-(n : Int)), .int .i64 0]] W fun e w' => e = .returned (.string ⟨L1.toArray⟩) ∧ Below W.heap.size W w'))
    (GP2 : Hid (∀ W, Tab W → Calls Tryd.prog 16 #[.agg #[.int .i64 (n : Int), .int .i64 0]] W fun e w' => e = .returned (.string ⟨L2.toArray⟩) ∧ Below W.heap.size W w'))
    (GR1 : Hid (∀ W, Calls Tryd.prog 13 #[.string ⟨L1.toArray⟩] W fun e w' => e = .returned (.tuple #[.agg #[.int .i64 l, .int .i64 N], .int .i64 0]) ∧ Below W.heap.size W w'))
    (GR2 : Hid (∀ W, Calls Tryd.prog 13 #[.string (⟨#[45]⟩ ++ ⟨(List.replicate A 48 ++ (L2 ++ [46]) ++ List.replicate (1 + B) 48).toArray⟩)] W fun e w' => e = .returned (.tuple #[.agg #[.int .i64 l, .int .i64 N], .int .i64 0]) ∧ Below W.heap.size W w'))
    (GL : Hid (∀ W, Calls Tryd.prog 18 #[.agg #[.int .i64 (-(n : Int)), .int .i64 0]] W fun e w' => e = .returned (.agg #[.int .i64 l, .int .i64 N]) ∧ Below W.heap.size W w'))
    (w : World) (ht : Tab w) :
    Calls Tryd.prog 8 #[.int .i32 m, .int .u8 s, .int .u8 x, .int .u8 y] w fun e w' => e = .returned (.bool true) ∧ Below w.heap.size w w' := by
  have HS : Hid (∀ W, Tab W → Calls Tryd.prog 10 #[] W fun e w' => e = .returned (.bool true) ∧ Below W.heap.size W w') := fun W h => Tryd.shown_any W h
  have HT := Lib.hid ht
  have p0 := Pair.new w 27 (.int .i64 (-(n : Int))) (.int .i64 0)
  have k0 := (Below.refl _ w).alloc (Nat.le_refl _) (.cells #[.int .i64 (-(n : Int)), .int .i64 0] 27)
  have hmax : max (-(n : Int)) (n : Int) = (n : Int) := by omega
  
  
  clear ht
  go_enter Tryd.func8, Tryd.ntmps8
  go_wp2_with (go_at_call 10; (with_reducible refine (HS.out _ (HT.out.below k0)).mono ?_); rintro e w1 ⟨rfl, hb⟩; have k1 := Below.next k0 (Nat.le_refl _) hb; have p1 := Pair.next p0 hb; clear p0 k0 hb; have c0 := p1.c0; have c1 := p1.c1)
  go_wp2_with (go_at_call 16; (with_reducible refine (GP1.out _ (HT.out.below k1)).mono ?_); rintro e w2 ⟨rfl, hb⟩; have k2 := Below.next k1 (Nat.le_refl _) hb; have p2 := Pair.next p1 hb; clear p1 k1 hb c0 c1; have c0 := p2.c0; have c1 := p2.c1)
  go_wp2_with (go_at_call 13; (with_reducible refine (GR1.out _).mono ?_); rintro e w3 ⟨rfl, hb⟩; have k3 := Below.next k2 (Nat.le_refl _) hb; have p3 := Pair.next p2 hb; clear p2 k2 hb c0 c1; have kL := Below.alloc k3 k3.size (.cells #[.int .i64 l, .int .i64 N] 27); have q3 := Pair.new w3 27 (.int .i64 l) (.int .i64 N); have pL := Pair.next p3 (Below.alloc (Below.refl w3.heap.size w3) (Nat.le_refl _) (.cells #[.int .i64 l, .int .i64 N] 27)); clear p3 k3; have c0 := pL.c0; have c1 := pL.c1)
  go_wp2_with (go_at_call 16; (with_reducible refine (GP2.out _ (HT.out.below kL)).mono ?_); rintro e w4 ⟨rfl, hb⟩; have k4 := Below.next kL (Nat.le_refl _) hb; have p4 := Pair.next pL hb; have q4 := Pair.next q3 hb; clear pL q3 kL hb c0 c1; have c0 := p4.c0; have c1 := p4.c1; have z4 := p4.lt)
  clear hmax hM hS
  go_loopg [12, 13] 4 (fun g v12 v13 wr => ∃ (i : Nat) (r : List UInt8), g = 4 - i ∧ i ≤ A ∧ v12 = .string ⟨r.toArray⟩ ∧ v13 = .int .i64 (i : Int) ∧ w4 = wr ∧ r.length ≤ 110 + i ∧ Hid (r = List.replicate i 48 ++ (L2 ++ [46])))
  case atStart => exact ⟨0, (L2 ++ [46]), rfl, by omega, by rw [show (⟨#[46]⟩ : ByteArray) = ⟨[(46 : UInt8)].toArray⟩ from rfl, cat], rfl, rfl, by simp; omega, by unfold Hid; rfl⟩
  case round =>
    obtain ⟨i, r, rfl, hi, rfl, rfl, rfl, hr, HR⟩ := hrel
    by_cases h1 : i < A
    · go_wp2
      go_roundg (4 - (i + 1))
      case measure => omega
      case rel => exact ⟨i + 1, 48 :: r, rfl, by omega, by rw [show (⟨#[48]⟩ : ByteArray) = ⟨[(48 : UInt8)].toArray⟩ from rfl, cat]; rfl, by go_num, rfl, by simp; omega, by unfold Hid; rw [HR.out]; rfl⟩
    · obtain rfl : i = A := by omega
      clear h1 hi
      go_wp2
      go_loopg [12, 14] 4 (fun g v12 v14 wr => ∃ (j : Nat) (r : List UInt8), g = 4 - j ∧ j ≤ 1 + B ∧ v12 = .string ⟨r.toArray⟩ ∧ v14 = .int .i64 (j : Int) ∧ w4 = wr ∧ r.length ≤ 120 + j ∧ Hid (r = List.replicate i 48 ++ (L2 ++ [46]) ++ List.replicate j 48))
      case atStart => exact ⟨0, r, rfl, by omega, rfl, rfl, rfl, by omega, by unfold Hid; rw [HR.out]; simp⟩
      case round =>
        clear HR hr
        obtain ⟨j, r, rfl, hj, rfl, rfl, rfl, hr, HR⟩ := hrel
        by_cases h1 : j < 1 + B
        · go_wp2
          go_roundg (4 - (j + 1))
          case measure => omega
          case rel => exact ⟨j + 1, r ++ [48], rfl, by omega, by rw [show (⟨#[48]⟩ : ByteArray) = ⟨[(48 : UInt8)].toArray⟩ from rfl, cat], by go_num, rfl, by simp; omega, by unfold Hid; rw [HR.out, List.replicate_succ', List.append_assoc _ (List.replicate j 48)]⟩
        · obtain rfl : j = 1 + B := by omega
          have GR3 : Hid (∀ W, Calls Tryd.prog 13 #[.string (⟨#[45]⟩ ++ ⟨r.toArray⟩)] W fun e w' => e = .returned (.tuple #[.agg #[.int .i64 l, .int .i64 N], .int .i64 0]) ∧ Below W.heap.size W w') := by rw [HR.out]; exact GR2
          clear h1 hj HR GR2
          go_wp2_with (go_at_call 13; (with_reducible refine (GR3.out _).mono ?_); rintro e w5 ⟨rfl, hb⟩; have k5 := Below.next k4 (Nat.le_refl _) hb; have p5 := Pair.next p4 hb; have q5 := Pair.next q4 hb; clear p4 q4 k4 hb c0 c1)
          have hS := trio_S (show Trio w w3.heap.size w5.heap.size (.int .i64 (-(n : Int))) (.int .i64 0) (.int .i64 l) (.int .i64 N) (w5.alloc (.cells #[.int .i64 l, .int .i64 N] 27)) from ⟨p5.next (Below.alloc (Below.refl _ _) (Nat.le_refl _) _), q5.next (Below.alloc (Below.refl _ _) (Nat.le_refl _) _), Pair.new w5 27 (.int .i64 l) (.int .i64 N), Below.alloc k5 k5.size _⟩)
          unfold TrioS at hS
          clear p5 q5 k5 HS HT GP1 GP2 GR1 GR3 z4 hr
          go_region_held3 (fun W => W.cell? ⟨w.heap.size, 0, none⟩ = some (.int .i64 (-(n : Int))) ∧ W.cell? ⟨w.heap.size, 1, none⟩ = some (.int .i64 0) ∧ W.cell? ⟨w3.heap.size, 0, none⟩ = some (.int .i64 l) ∧ W.cell? ⟨w3.heap.size, 1, none⟩ = some (.int .i64 N) ∧ W.cell? ⟨w5.heap.size, 0, none⟩ = some (.int .i64 l) ∧ W.cell? ⟨w5.heap.size, 1, none⟩ = some (.int .i64 N) ∧ Trio w w3.heap.size w5.heap.size (.int .i64 (-(n : Int))) (.int .i64 0) (.int .i64 l) (.int .i64 N) W)
            ((go_split_ands; (first | exact trio_S (by assumption) | exact trio_S (Trio.drew (by assumption)) | exact trio_S (Trio.next (by assumption) (by assumption)))))
            ((go_at_call 18; (with_reducible refine (GL.out _).mono ?_); rintro e w' ⟨rfl, hb⟩))
          have T6 := (show _ ∧ _ ∧ _ ∧ _ ∧ _ ∧ _ ∧ Trio w w3.heap.size w5.heap.size (.int .i64 (-(n : Int))) (.int .i64 0) (.int .i64 l) (.int .i64 N) w' by assumption).2.2.2.2.2.2
          clear hS
          go_wp2
          go_ret
          exact ⟨rfl, T6.2.2.2⟩
#print axioms Tryd.Noughts_neg0
end Go.Proofs
