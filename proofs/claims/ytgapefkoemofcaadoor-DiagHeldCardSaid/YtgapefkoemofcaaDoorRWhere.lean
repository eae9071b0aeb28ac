/- The document's own Where of this program, and cursor.Where at every place. Conditions: a text of at most a million bytes. -/
import Derived.Test.YtgapefkoemofcaaDoorRefPlain
import Derived.Test.YtgapefkoemofcaaDoorWhere
namespace Go.Proofs
open Go.RowKit Go.Shelf Go.Cur

set_option maxRecDepth 100000 in
set_option maxHeartbeats 1000000 in
theorem Tryd.rWhere_calls (s : ByteArray) (n : Nat) (w : World) (hs : s.size ≤ 1000000) (hn : n ≤ s.size) :
    Calls Tryd.prog 29 #[.string s, .int .i64 (n : Int)] w fun e w' => e = .returned (.tuple #[.int .i64 (whereL (spans s.data.toList) (n : Int) 0).1, .int .i64 (whereL (spans s.data.toList) (n : Int) 0).2.1, .int .i64 0]) ∧ w = w' := by
  have g1 : decide ((n : Int) < 0) = false := decide_eq_false (by omega)
  have g2 : decide (s.size < n) = false := decide_eq_false (by omega)
  have hl : s.data.toList.length = s.size := by simp
  have HL := Lib.hid hl
  clear hl
  go_enter Tryd.func29, Tryd.ntmps29
  go_wp2
  go_loop [7, 8, 9] (fun L C i => ∃ k : Nat, k ≤ n ∧ i = .int .i64 (k : Int) ∧ L = .int .i64 (whereL (spans s.data.toList) (k : Int) 0).1 ∧ C = .int .i64 (whereL (spans s.data.toList) (k : Int) 0).2.1) (fun _ _ i => n - (intOf i).toNat)
  case atStart => exact ⟨0, Nat.zero_le _, rfl, by rw [show (((0 : Nat) : Int)) = 0 from rfl, where_zero], by rw [show (((0 : Nat) : Int)) = 0 from rfl, where_zero]⟩
  case round =>
    obtain ⟨k, hk, rfl, rfl, rfl⟩ := hrel
    obtain ⟨p1, p2, p3, p4, _⟩ := col_pos s.data.toList k (by rw [HL.out]; omega)
    rw [HL.out] at p3 p4
    by_cases hlt : k < n
    · have hks : k < s.size := by omega
      have hnx := where_next s.data.toList k (by rw [HL.out]; omega)
      rw [list_get s k hks] at hnx
      by_cases hb : s[k]'hks = 10
      · have hbb : (((s[k]'hks).toNat : Int) == 10) = true := by rw [hb]; rfl
        rw [if_pos (by rw [hb])] at hnx
        generalize (whereL (spans s.data.toList) (k : Int) 0).1 = A at *
        generalize (whereL (spans s.data.toList) (k : Int) 0).2.1 = B at *
        have Hn := Lib.hid hnx
        clear hnx hb
        go_wp2
        go_round
        case rel => exact ⟨k + 1, by omega, by go_num, by rw [Hn.out], by rw [Hn.out]⟩
        case measure => simp [intOf]; omega
      · have hbb : (((s[k]'hks).toNat : Int) == 10) = false := by
          rw [beq_eq_false_iff_ne]
          intro e
          exact hb (UInt8.toNat_inj.1 (by have e' : (s[k]'hks).toNat = 10 := by omega
                                          exact e'))
        rw [if_neg (fun e => hb (Option.some.inj e))] at hnx
        generalize (whereL (spans s.data.toList) (k : Int) 0).1 = A at *
        generalize (whereL (spans s.data.toList) (k : Int) 0).2.1 = B at *
        have Hn := Lib.hid hnx
        clear hnx hb
        go_wp2
        go_round
        case rel => exact ⟨k + 1, by omega, by go_num, by rw [Hn.out], by rw [Hn.out]⟩
        case measure => simp [intOf]; omega
    · have hkn : k = n := by omega
      subst hkn
      go_wp2
      go_ret3
      exact ⟨rfl, rfl⟩

set_option maxHeartbeats 400000 in
theorem Tryd.rWhere_out (s : ByteArray) (i : Int) (w : World) (h : i < 0 ∨ (s.size : Int) < i) :
    Calls Tryd.prog 29 #[.string s, .int .i64 i] w fun e w' => e = .returned (.tuple #[.int .i64 0, .int .i64 0, .int .i64 10]) ∧ w = w' := by
  by_cases h1 : i < 0
  · go_enter Tryd.func29, Tryd.ntmps29
    go_wp2
    go_ret3
    exact ⟨rfl, rfl⟩
  · have h2 : (s.size : Int) < i := by omega
    clear h
    go_enter Tryd.func29, Tryd.ntmps29
    go_wp2
    go_ret3
    exact ⟨rfl, rfl⟩

def whereAll (l : List UInt8) (i : Int) : Int × Int × Int := if i < 0 then (0, 0, 10) else whereL (spans l) i 0

theorem Tryd.rWhere_all (s : ByteArray) (i : Int) (w : World) (hs : s.size ≤ 1000000) :
    Calls Tryd.prog 29 #[.string s, .int .i64 i] w fun e w' => e = .returned (.tuple #[.int .i64 (whereAll s.data.toList i).1, .int .i64 (whereAll s.data.toList i).2.1, .int .i64 (whereAll s.data.toList i).2.2]) ∧ w = w' := by
  by_cases h : i < 0 ∨ (s.size : Int) < i
  · have e : whereAll s.data.toList i = (0, 0, 10) := by
      unfold whereAll
      split
      · rfl
      · exact where_beyond _ _ (by simp; omega)
    rw [e]
    exact Tryd.rWhere_out s i w h
  · obtain ⟨n, rfl⟩ := Int.eq_ofNat_of_zero_le (show 0 ≤ i by omega)
    have e : whereAll s.data.toList n = whereL (spans s.data.toList) n 0 := by unfold whereAll; rw [if_neg (by omega)]
    rw [e, (col_pos s.data.toList n (by simp; omega)).2.2.2.2]
    exact Tryd.rWhere_calls s n w hs (by omega)

theorem Tryd.Where_all (s : ByteArray) (i : Int) (w : World) (hs : s.size ≤ 1000000) (h9 : i ≤ 9223372036854775807) :
    Calls Tryd.prog 28 #[.string s, .int .i64 i] w fun e w' => e = .returned (.tuple #[.int .i64 (whereAll s.data.toList i).1, .int .i64 (whereAll s.data.toList i).2.1, .int .i64 (whereAll s.data.toList i).2.2]) ∧ Below w.heap.size w w' := by
  unfold whereAll
  by_cases h : i < 0
  · rw [if_pos h]; exact Tryd.Where_neg s i w h
  · rw [if_neg h]; exact Tryd.Where_calls s i w hs (by omega) h9
#print axioms Tryd.Where_all
#print axioms Tryd.rWhere_all
end Go.Proofs
