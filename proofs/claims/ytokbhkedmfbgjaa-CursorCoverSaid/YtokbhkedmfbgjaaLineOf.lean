/- cursor.lineOf of this program: the line of a part of a text. Conditions: a text of at most a million bytes. -/
import Derived.Test.YtokbhkedmfbgjaaWhere
namespace Go.Cur
/-- The line of a part: its first byte, the place behind its last one, where the next line begins. -/
def lineAt (l : List UInt8) (p : Nat × Nat) : Nat × Nat × Nat :=
  if p.2 = l.length then (p.1, p.2, p.2) else (p.1, if p.1 < p.2 ∧ l[p.2 - 1]? = some 13 then p.2 - 1 else p.2, p.2 + 1)
def lines (l : List UInt8) : List (Nat × Nat × Nat) := ((spans l).takeWhile fun p => p.1 != l.length).map (lineAt l)
end Go.Cur
namespace Go.Proofs
open Go.RowKit Go.Shelf Go.Cur
attribute [local go_sem] Oper.semAt_some

def lineV (p : Nat × Nat × Nat) : Value := .agg #[.int .i64 (p.1 : Int), .int .i64 (p.2.1 : Int), .int .i64 (p.2.2 : Int)]
def linesV (s : ByteArray) : List (Array Value) := (lines s.data.toList).map fun p => #[lineV p]

set_option maxHeartbeats 400000 in
theorem Try.lineOf_calls (s : ByteArray) (a b : Nat) (w : World) (hs : s.size ≤ 1000000) (hab : a ≤ b) (hb : b ≤ s.size) :
    Calls Try.prog 28 #[.string s, .int .i64 (a : Int), .int .i64 (b : Int)] w fun e w' => e = .returned (lineV (lineAt s.data.toList (a, b))) ∧ Below w.heap.size w w' := by
  by_cases he : b = s.size
  · have hbe : (((b : Nat) : Int) == (s.size : Int)) = true := by rw [beq_iff_eq]; omega
    have hl : lineAt s.data.toList (a, b) = (a, b, b) := by simp [lineAt, he]
    have Hl := Lib.hid hl
    clear hl he
    go_enter Try.func28, Try.ntmps28
    go_wp2
    rw [Hl.out]
    exact bodyPost_ret (v := .agg #[.int .i64 a, .int .i64 b, .int .i64 b]) (by simp [results, Try.results28, go_sem]) rfl ⟨rfl, (Below.refl _ w).alloc (Nat.le_refl _) _⟩
  · have hbe : (((b : Nat) : Int) == (s.size : Int)) = false := by rw [beq_eq_false_iff_ne]; omega
    by_cases hlt : a < b
    · have hgt : decide ((a : Int) < (b : Int)) = true := by simpa using hlt
      have hb1 : 0 ≤ (b : Int) - 1 := by omega
      have hb2 : ((b : Int) - 1).toNat = b - 1 := by omega
      have hb3 : b - 1 < s.size := by omega
      by_cases h13 : s[b - 1]'hb3 = 13
      · have h13' : (((s[b - 1]'hb3).toNat : Int) == 13) = true := by rw [h13]; rfl
        have hl : lineAt s.data.toList (a, b) = (a, b - 1, b + 1) := by
          simp only [lineAt]; rw [if_neg (by simpa using he), list_get s (b - 1) hb3, h13, if_pos ⟨hlt, rfl⟩]
        have Hl := Lib.hid hl
        clear hl he h13
        go_enter Try.func28, Try.ntmps28
        go_wp2
        rw [Hl.out]
        have e3 : ((b - 1 : Nat) : Int) = (b : Int) - 1 := by omega
        refine bodyPost_ret (v := .agg #[.int .i64 a, .int .i64 ((b : Int) - 1), .int .i64 ((b : Int) + 1)]) (by simp [results, Try.results28, go_sem]) rfl ⟨?_, ((Below.refl _ w).alloc (Nat.le_refl _) _).alloc (by simp) _⟩
        simp [lineV, e3]
      · have h13' : (((s[b - 1]'hb3).toNat : Int) == 13) = false := by
          rw [beq_eq_false_iff_ne]
          intro e
          exact h13 (UInt8.toNat_inj.1 (by have e' : (s[b - 1]'hb3).toNat = 13 := by omega
                                           exact e'))
        have hl : lineAt s.data.toList (a, b) = (a, b, b + 1) := by
          simp only [lineAt]; rw [if_neg (by simpa using he), list_get s (b - 1) hb3, if_neg (fun h => h13 (Option.some.inj h.2))]
        have Hl := Lib.hid hl
        clear hl he h13
        go_enter Try.func28, Try.ntmps28
        go_wp2
        rw [Hl.out]
        refine bodyPost_ret (v := .agg #[.int .i64 a, .int .i64 b, .int .i64 ((b : Int) + 1)]) (by simp [results, Try.results28, go_sem]) rfl ⟨?_, ((Below.refl _ w).alloc (Nat.le_refl _) _).alloc (by simp) _⟩
        simp [lineV]
    · have hgt : decide ((a : Int) < (b : Int)) = false := by simpa using hlt
      have hl : lineAt s.data.toList (a, b) = (a, b, b + 1) := by
        simp only [lineAt]; rw [if_neg (by simpa using he), if_neg (fun h => hlt h.1)]
      have Hl := Lib.hid hl
      clear hl he
      go_enter Try.func28, Try.ntmps28
      go_wp2
      rw [Hl.out]
      refine bodyPost_ret (v := .agg #[.int .i64 a, .int .i64 b, .int .i64 ((b : Int) + 1)]) (by simp [results, Try.results28, go_sem]) rfl ⟨?_, ((Below.refl _ w).alloc (Nat.le_refl _) _).alloc (by simp) _⟩
      simp [lineV]

#print axioms Try.lineOf_calls
end Go.Proofs
