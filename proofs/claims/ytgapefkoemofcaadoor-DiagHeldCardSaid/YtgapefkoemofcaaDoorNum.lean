/- strconv.Itoa as this program calls it, and the document's own Num: the decimal text of a number. Conditions: an int; the table of powers of ten holds what the card lays (Itoa). -/
import Derived.Test.YtgapefkoemofcaaDoorShelf
import Derived.Test.YtgapefkoemofcaaDoorCmp
import Derived.Lib.LaidTab
import Derived.Lib.ItoaLen
import Derived.Laws.IdiomStrings
namespace Go.Dg
theorem cat (x y : List UInt8) : (⟨x.toArray⟩ : ByteArray) ++ ⟨y.toArray⟩ = ⟨(x ++ y).toArray⟩ := by
  apply ByteArray.ext
  simp
theorem byte_of {x : Nat} (h : x < 10) : (UInt8.ofNat (48 + x)).toNat = 48 + x := by
  rw [UInt8.toNat_ofNat']; omega
/-- What the loop over the digits holds. -/
def Dig (n q : Nat) (s : List UInt8) : Prop := (s = [] ∧ q = n) ∨ (s ≠ [] ∧ q = 0 ∧ s = Lib.decDigits n) ∨ (s ≠ [] ∧ 0 < q ∧ Lib.decDigits n = Lib.decDigits q ++ s)
theorem Dig.step {n q : Nat} {s : List UInt8} (h : Dig n q s) (hq : 0 < q ∨ s = []) : Dig n (q / 10) (UInt8.ofNat (48 + q % 10) :: s) := by
  have key : Lib.decDigits n = Lib.decDigits q ++ s := by
    rcases h with ⟨rfl, rfl⟩ | ⟨h1, h2, h3⟩ | ⟨h1, h2, h3⟩
    · simp
    · rcases hq with hq | hq
      · omega
      · exact absurd hq h1
    · exact h3
  by_cases h10 : q < 10
  · refine .inr (.inl ⟨by simp, by omega, ?_⟩)
    rw [key, Lib.decDigits_one h10, Nat.mod_eq_of_lt h10]; rfl
  · refine .inr (.inr ⟨by simp, by omega, ?_⟩)
    rw [key, Lib.decDigits, dif_neg h10]; simp
theorem Dig.done {n : Nat} {s : List UInt8} (h : Dig n 0 s) (hs : s ≠ []) : s = Lib.decDigits n := by
  rcases h with ⟨h1, _⟩ | ⟨_, _, h⟩ | ⟨_, h, _⟩
  · exact absurd h1 hs
  · exact h
  · omega
theorem Dig.len {n q : Nat} {s : List UInt8} (h : Dig n q s) (hn : n < 18446744073709551616) : s.length ≤ 20 := by
  have hd : (Lib.decDigits n).length ≤ 20 := by rw [Lib.decDigits_length]; exact Lib.nDigits_le20 n hn
  rcases h with ⟨rfl, _⟩ | ⟨_, _, rfl⟩ | ⟨_, _, h⟩
  · simp
  · exact hd
  · rw [h] at hd; simp at hd; omega
end Go.Dg
namespace Go.Proofs
open Go.RowKit Go.Dg Go.Sort
attribute [local go_sem] Oper.semAt_some
attribute [local go_sem ↓] Go.wp_at_zero Go.wp_at_succ
/-- The table of powers of ten holds what the card lays. -/
def Tab (w : World) : Prop := Lib.TabIs Tryd.prog w "internal/strconv.uint64pow10" .u64 Lib.pow10Tab
theorem Tab.below {n : Nat} {w w' : World} (h : Tab w) (hb : Below n w w') (hn : w.heap.size ≤ n) : Tab w' := by
  unfold Tab Lib.TabIs World.var? at h ⊢
  cases hg : Tryd.prog.globalNamed "internal/strconv.uint64pow10" with
  | none => rw [hg] at h; cases h
  | some g =>
    rw [hg] at h
    simp only [Option.bind_some] at h ⊢
    have hlt : g < w.heap.size := by
      rcases Nat.lt_or_ge g w.heap.size with h' | h'
      · exact h'
      · rw [Array.getElem?_eq_none h'] at h; cases h
    rw [hb.block g (by omega)]
    exact h
theorem Tab.next {w w' : World} (h : Tab w) (hb : Below w.heap.size w w') : Tab w' := h.below hb (Nat.le_refl _)
theorem Tab.alloc {w : World} (h : Tab w) (o : Obj) : Tab (w.alloc o) := h.next ((Below.refl _ w).alloc (Nat.le_refl _) o)
theorem below_grow (w : World) (n : Nat) (os : Array Obj) : Below w.heap.size w (grow (w.drewN n) os) :=
  ⟨rfl, rfl, rfl, by simp [grow], fun k hk => by simp only [grow]; rw [Array.getElem?_append_left (by simpa using hk)]; simp⟩
theorem Tryd.itoa_any (n : Int) (h0 : -9223372036854775808 ≤ n) (h1 : n ≤ 9223372036854775807) (w : World) (ht : Tab w) :
    Calls Tryd.prog 27 #[.int .i64 n] w fun e w' => e = .returned (.string ⟨(Lib.itoa n).toArray⟩) ∧ Below w.heap.size w w' := by
  refine (Tryd.strconv_Itoa n h0 h1 w ht).mono fun e w' ⟨he, k, os, hw⟩ => ?_
  subst hw
  exact ⟨he, below_grow w k os⟩
/-- A byte as a text. -/
theorem one_byte (W : World) (d : Nat) (h : d < 10) : (convert 65 9 (.slice (some ⟨W.heap.size, 0, none⟩) 1 1)).run Tryd.prog (W.alloc (.cells #[.int .u8 (48 + (d : Int))] 5)) = .ok (.string ⟨[UInt8.ofNat (48 + d)].toArray⟩) (W.alloc (.cells #[.int .u8 (48 + (d : Int))] 5)) := by
  have hb : ((UInt8.ofNat (48 + d)).toNat : Int) = 48 + (d : Int) := by rw [byte_of h]; omega
  rw [← hb]
  refine run_convert_bytes_back (P := Tryd.prog) (W.alloc (.cells #[.int .u8 ((UInt8.ofNat (48 + d)).toNat : Int)] 5)) 65 9 5 ⟨W.heap.size, 0, none⟩ 1 [UInt8.ofNat (48 + d)] Tryd.underlying65 Tryd.underlying5 Tryd.underlying9 (fun j hj => ?_)
  obtain rfl : j = 0 := by simp at hj; omega
  have e := World.alloc_heap_new W (.cells #[.int .u8 ((UInt8.ofNat (48 + d)).toNat : Int)] 5)
  rw [Addr.add_lit]
  unfold World.cell?; simp only [e]; rfl
set_option maxRecDepth 100000 in
set_option maxHeartbeats 2000000 in
theorem Tryd.digits_any (n : Nat) (hn : n ≤ 9223372036854775808) (w : World) :
    Calls Tryd.prog 30 #[.int .u64 (n : Int)] w fun e w' => e = .returned (.string ⟨(Lib.decDigits n).toArray⟩) ∧ Below w.heap.size w w' := by
  go_enter Tryd.func30, Tryd.ntmps30
  go_wp2
  go_loopg [0, 3] 21 (fun g v0 v3 wr => ∃ (q : Nat) (l : List UInt8), g = 21 - l.length ∧ q ≤ 9223372036854775808 ∧ v0 = .int .u64 (q : Int) ∧ v3 = .string ⟨l.toArray⟩ ∧ l.length ≤ 20 ∧ Below w.heap.size w wr ∧ Hid (Dig n q l))
  case atStart => exact ⟨n, [], rfl, hn, rfl, rfl, by simp, Below.refl _ _, .inl ⟨rfl, rfl⟩⟩
  case round =>
    obtain ⟨q, l, hg, hq, rfl, rfl, hl, hB, HH⟩ := hrel
    obtain ⟨D, hD⟩ : ∃ D, D = UInt8.ofNat (48 + q % 10) := ⟨_, rfl⟩
    have hcv : ∀ W : World, (convert 65 9 (.slice (some ⟨W.heap.size, 0, none⟩) 1 1)).run Tryd.prog (W.alloc (.cells #[.int .u8 (48 + (q : Int) % 10)] 5)) = .ok (.string ⟨[D].toArray⟩) (W.alloc (.cells #[.int .u8 (48 + (q : Int) % 10)] 5)) := by
      intro W
      have := one_byte W (q % 10) (by omega)
      rw [hD]
      simpa using this
    have bn := Below.alloc hB hB.size (.cells #[.int .u8 (48 + (q : Int) % 10)] 5)
    by_cases h : 0 < q ∨ l = []
    · have HN : Hid (Dig n (q / 10) (D :: l)) := by rw [hD]; exact HH.out.step h
      have hl2 : (D :: l).length ≤ 20 := HN.out.len (by omega)
      have hl3 : l.length + 1 ≤ 20 := by simpa using hl2
      clear hD hl2 HH
      by_cases h0 : 0 < q
      · have hq1 : (0 : Int) < (q : Int) := by omega
        clear h
        go_wp2
        go_roundg (21 - (l.length + 1))
        case measure => omega
        case rel => exact ⟨q / 10, D :: l, by simp, by omega, by simp, by rw [show (⟨#[D]⟩ : ByteArray) = ⟨[D].toArray⟩ from rfl, cat]; rfl, by simpa using hl3, bn, HN⟩
      · obtain rfl : q = 0 := by omega
        obtain rfl : l = [] := by rcases h with h | h; omega; exact h
        have hcz : ∀ W : World, (convert 65 9 (.slice (some ⟨W.heap.size, 0, none⟩) 1 1)).run Tryd.prog (W.alloc (.cells #[.int .u8 48] 5)) = .ok (.string ⟨[D].toArray⟩) (W.alloc (.cells #[.int .u8 48] 5)) := fun W => hcv W
        have bz := Below.alloc hB hB.size (.cells #[.int .u8 48] 5)
        clear hcv h h0 bn
        go_wp2
        go_roundg (21 - (0 + 1))
        case measure => simp at hg; omega
        case rel => exact ⟨0, [D], by simp, by omega, by simp, rfl, by simp, bz, HN⟩
    · obtain rfl : q = 0 := by omega
      have hln : l ≠ [] := fun e => h (.inr e)
      have HE := Lib.hid (HH.out.done hln)
      have hne : l.isEmpty = false := by cases l with | nil => exact absurd rfl hln | cons _ _ => rfl
      clear h hcv HH bn hD hln
      go_wp2
      go_ret
      exact ⟨by rw [← HE.out]; rfl, hB⟩
theorem Tryd.Num_pos (n : Nat) (hn : n ≤ 9223372036854775807) (w : World) :
    Calls Tryd.prog 22 #[.int .i64 (n : Int)] w fun e w' => e = .returned (.string ⟨(Lib.itoa (n : Int)).toArray⟩) ∧ Below w.heap.size w w' := by
  have HD : Hid (∀ W, Calls Tryd.prog 30 #[.int .u64 (n : Int)] W fun e w' => e = .returned (.string ⟨(Lib.itoa (n : Int)).toArray⟩) ∧ Below W.heap.size W w') := fun W => by
    rw [Lib.itoa_nonneg]; exact Tryd.digits_any n (by omega) W
  go_enter Tryd.func22, Tryd.ntmps22
  go_wp2_with (go_at_call 30; (with_reducible refine (HD.out _).mono ?_); rintro e w2 ⟨rfl, hb⟩)
  go_ret
  exact ⟨rfl, hb⟩
set_option maxHeartbeats 1000000 in
theorem Tryd.Num_neg (n : Nat) (h1 : 1 ≤ n) (hn : n ≤ 9223372036854775808) (w : World) :
    Calls Tryd.prog 22 #[.int .i64 (-(n : Int))] w fun e w' => e = .returned (.string ⟨(Lib.itoa (-(n : Int))).toArray⟩) ∧ Below w.heap.size w w' := by
  have hlen : (Lib.decDigits n).length ≤ 20 := by rw [Lib.decDigits_length]; exact Lib.nDigits_le20 n (by omega)
  have HI : Hid (Lib.itoa (-(n : Int)) = 45 :: Lib.decDigits n) := Lib.itoa_neg n (by omega)
  have HD : Hid (∀ W, Calls Tryd.prog 30 #[.int .u64 (n : Int)] W fun e w' => e = .returned (.string ⟨(Lib.decDigits n).toArray⟩) ∧ Below W.heap.size W w') := fun W => Tryd.digits_any n (by omega) W
  generalize Lib.decDigits n = D at hlen HI HD
  have hneg : ¬ (0 : Int) ≤ -(n : Int) := by omega
  have e1 : IntKind.i64.wrap (-(n : Int) + 1) = -(n : Int) + 1 := by rw [IntKind.wrap_i64]; omega
  have e2 : IntKind.i64.wrap (-(-(n : Int) + 1)) = (n : Int) - 1 := by rw [IntKind.wrap_i64]; omega
  go_enter Tryd.func22, Tryd.ntmps22
  go_wp2_with (go_at_call 30; (with_reducible refine (HD.out _).mono ?_); rintro e w2 ⟨rfl, hb⟩)
  go_ret
  refine ⟨?_, hb⟩
  rw [HI.out]
  exact congrArg (fun x => Ending.returned (.string x)) (cat [45] D)
theorem Tryd.Num_any (n : Int) (h0 : -9223372036854775808 ≤ n) (h1 : n ≤ 9223372036854775807) (w : World) :
    Calls Tryd.prog 22 #[.int .i64 n] w fun e w' => e = .returned (.string ⟨(Lib.itoa n).toArray⟩) ∧ Below w.heap.size w w' := by
  by_cases h : n < 0
  · obtain ⟨m, rfl⟩ : ∃ m : Nat, n = -(m : Int) := ⟨(-n).toNat, by omega⟩
    exact Tryd.Num_neg m (by omega) (by omega) w
  · obtain ⟨m, rfl⟩ : ∃ m : Nat, n = (m : Int) := ⟨n.toNat, by omega⟩
    exact Tryd.Num_pos m (by omega) w
#print axioms Tryd.Num_any
end Go.Proofs
