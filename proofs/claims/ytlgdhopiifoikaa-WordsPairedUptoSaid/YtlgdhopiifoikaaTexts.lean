/- words.Text, and the document's own places, Text and blank, of this program, as contracts. No conditions. -/
import Derived.Test.YtlgdhopiifoikaaSeek
namespace Go.Wds
/-- The bytes of a part; none, if it is none. -/
def textI (s : ByteArray) (a b : Int) : ByteArray := if Go.Proofs.inB s.size a b = true then s.extract a.toNat b.toNat else ⟨#[]⟩
end Go.Wds
namespace Go.Proofs
open Go.RowKit Go.Shelf Go.Wds

theorem inB_nat {n a b : Nat} (hab : a ≤ b) (hbn : b ≤ n) : inB n (a : Int) (b : Int) = true := decide_eq_true ⟨by omega, by omega, by omega⟩
theorem inB_out {n : Nat} {a b : Int} (h : inB n a b = true) : ∃ x y : Nat, a = (x : Int) ∧ b = (y : Int) ∧ x ≤ y ∧ y ≤ n := by
  have h' := of_decide_eq_true h
  exact ⟨a.toNat, b.toNat, by omega, by omega, by omega, by omega⟩
theorem textI_nat {s : ByteArray} {a b : Nat} (hab : a ≤ b) (hbn : b ≤ s.size) : textI s (a : Int) (b : Int) = s.extract a b := by
  unfold textI; rw [if_pos (inB_nat hab hbn)]; rfl

set_option maxRecDepth 100000 in
theorem Try.places_calls (s : ByteArray) (a b : Int) (w : World) :
    Calls Try.prog 29 #[.string s, .int .i64 a, .int .i64 b] w fun e w' => e = .returned (.bool (inB s.size a b)) ∧ w' = w := by
  by_cases h1 : 0 ≤ a
  · have d1 : decide (0 ≤ a) = true := decide_eq_true h1
    by_cases h2 : a ≤ b
    · have d2 : decide (a ≤ b) = true := decide_eq_true h2
      by_cases h3 : b ≤ s.size
      · have d3 : decide (b ≤ (s.size : Int)) = true := decide_eq_true h3
        have H := Lib.hid (show inB s.size a b = true from decide_eq_true ⟨h1, h2, h3⟩)
        clear h1 h2 h3
        go_enter Try.func29, Try.ntmps29
        go_wp2
        go_ret
        rw [H.out]; exact ⟨rfl, rfl⟩
      · have d3 : decide (b ≤ (s.size : Int)) = false := decide_eq_false h3
        have H := Lib.hid (show inB s.size a b = false from decide_eq_false fun h => h3 h.2.2)
        clear h1 h2 h3
        go_enter Try.func29, Try.ntmps29
        go_wp2
        go_ret
        rw [H.out]; exact ⟨rfl, rfl⟩
    · have d2 : decide (a ≤ b) = false := decide_eq_false h2
      have H := Lib.hid (show inB s.size a b = false from decide_eq_false fun h => h2 h.2.1)
      clear h1 h2
      go_enter Try.func29, Try.ntmps29
      go_wp2
      go_ret
      rw [H.out]; exact ⟨rfl, rfl⟩
  · have d1 : decide (0 ≤ a) = false := decide_eq_false h1
    have H := Lib.hid (show inB s.size a b = false from decide_eq_false fun h => h1 h.1)
    clear h1
    go_enter Try.func29, Try.ntmps29
    go_wp2
    go_ret
    rw [H.out]; exact ⟨rfl, rfl⟩

set_option maxRecDepth 100000 in
theorem Try.Text_calls (s : ByteArray) (a b : Int) (w : World) :
    Calls Try.prog 15 #[.string s, .agg #[.int .i64 a, .int .i64 b]] w fun e w' => e = .returned (.string (textI s a b)) ∧ Below w.heap.size w w' := by
  cases h : inB s.size a b with
  | false =>
    have hc := Lib.hid fun w => Try.inside_calls s a b w
    rw [h] at hc
    have H := Lib.hid (show textI s a b = ⟨#[]⟩ by unfold textI; rw [h]; rfl)
    clear h
    go_enter Try.func15, Try.ntmps15
    go_wp2_with (go_at_call 25; (with_reducible refine (hc.out _).mono ?_); rintro e w1 ⟨rfl, rfl⟩)
    go_ret
    rw [H.out]
    exact ⟨rfl, (Below.refl _ _).alloc (Nat.le_refl _) _⟩
  | true =>
    obtain ⟨x, y, rfl, rfl, hxy, hy⟩ := inB_out h
    have hc := Lib.hid fun w => Try.inside_calls s (x : Int) (y : Int) w
    rw [h] at hc
    have H := Lib.hid (textI_nat (s := s) hxy hy)
    clear h
    go_enter Try.func15, Try.ntmps15
    go_wp2_with (go_at_call 25; (with_reducible refine (hc.out _).mono ?_); rintro e w1 ⟨rfl, rfl⟩)
    go_ret
    rw [H.out]
    exact ⟨rfl, (Below.refl _ _).alloc (Nat.le_refl _) _⟩
set_option maxRecDepth 100000 in
theorem Try.rText_calls (s : ByteArray) (a b : Int) (w : World) :
    Calls Try.prog 16 #[.string s, .agg #[.int .i64 a, .int .i64 b]] w fun e w' => e = .returned (.string (textI s a b)) ∧ Below w.heap.size w w' := by
  cases h : inB s.size a b with
  | false =>
    have hc := Lib.hid fun w => Try.places_calls s a b w
    rw [h] at hc
    have H := Lib.hid (show textI s a b = ⟨#[]⟩ by unfold textI; rw [h]; rfl)
    clear h
    go_enter Try.func16, Try.ntmps16
    go_wp2_with (go_at_call 29; (with_reducible refine (hc.out _).mono ?_); rintro e w1 ⟨rfl, rfl⟩)
    go_ret
    rw [H.out]
    exact ⟨rfl, (Below.refl _ _).alloc (Nat.le_refl _) _⟩
  | true =>
    obtain ⟨x, y, rfl, rfl, hxy, hy⟩ := inB_out h
    have hc := Lib.hid fun w => Try.places_calls s (x : Int) (y : Int) w
    rw [h] at hc
    have H := Lib.hid (textI_nat (s := s) hxy hy)
    clear h
    go_enter Try.func16, Try.ntmps16
    go_wp2_with (go_at_call 29; (with_reducible refine (hc.out _).mono ?_); rintro e w1 ⟨rfl, rfl⟩)
    go_ret
    rw [H.out]
    exact ⟨rfl, (Below.refl _ _).alloc (Nat.le_refl _) _⟩

set_option maxRecDepth 100000 in
theorem Try.blank_calls (c : UInt8) (w : World) :
    Calls Try.prog 30 #[.int .u8 (c.toNat : Int)] w fun e w' => e = .returned (.bool (blk c)) ∧ w' = w := by
  by_cases h1 : c = 32
  · subst h1
    go_enter Try.func30, Try.ntmps30
    go_wp2
    go_ret
    exact ⟨rfl, rfl⟩
  · by_cases h2 : c = 9
    · subst h2
      go_enter Try.func30, Try.ntmps30
      go_wp2
      go_ret
      exact ⟨rfl, rfl⟩
    · have d1 : ((c.toNat : Int) == 32) = false := by
        rw [beq_eq_false_iff_ne]
        intro e
        exact h1 (UInt8.toNat_inj.1 (by have e' : c.toNat = 32 := by omega
                                        exact e'))
      have d2 : ((c.toNat : Int) == 9) = false := by
        rw [beq_eq_false_iff_ne]
        intro e
        exact h2 (UInt8.toNat_inj.1 (by have e' : c.toNat = 9 := by omega
                                        exact e'))
      have H := Lib.hid (show blk c = false by unfold blk; simp [h1, h2])
      clear h1 h2
      go_enter Try.func30, Try.ntmps30
      go_wp2
      go_ret
      rw [H.out]; exact ⟨rfl, rfl⟩
#print axioms Try.Text_calls
#print axioms Try.rText_calls
#print axioms Try.blank_calls
end Go.Proofs
