/- The document's own Where and Place, and the law CursorWhere of this program, as contracts. Conditions: numbers of the kind int. -/
import Derived.Test.YtokbhkedmfbgjaaShown
import Derived.Test.YtokbhkedmfbgjaaRefPlain
namespace Go.Proofs
open Go.RowKit Go.Shelf Go.Cur

set_option maxRecDepth 100000 in
set_option maxHeartbeats 1000000 in
theorem Try.rWhere_calls (s : ByteArray) (n : Nat) (w : World) (hs : s.size ≤ 1000000) (hn : n ≤ s.size) :
    Calls Try.prog 19 #[.string s, .int .i64 (n : Int)] w fun e w' => e = .returned (.tuple #[.int .i64 (whereL (spans s.data.toList) (n : Int) 0).1, .int .i64 (whereL (spans s.data.toList) (n : Int) 0).2.1, .int .i64 0]) ∧ w = w' := by
  have g1 : decide ((n : Int) < 0) = false := decide_eq_false (by omega)
  have g2 : decide (s.size < n) = false := decide_eq_false (by omega)
  have hl : s.data.toList.length = s.size := by simp
  have HL := Lib.hid hl
  clear hl
  go_enter Try.func19, Try.ntmps19
  go_wp2
  go_loop [7, 8, 9] (fun L C i => ∃ k : Nat, k ≤ n ∧ i = .int .i64 (k : Int) ∧ L = .int .i64 (whereL (spans s.data.toList) (k : Int) 0).1 ∧ C = .int .i64 (whereL (spans s.data.toList) (k : Int) 0).2.1) (fun _ _ i => n - (intOf i).toNat)
  case atStart => exact ⟨0, Nat.zero_le _, rfl, by rw [show (((0 : Nat) : Int)) = 0 from rfl, where_zero], by rw [show (((0 : Nat) : Int)) = 0 from rfl, where_zero]⟩
  case round =>
    obtain ⟨k, hk, rfl, rfl, rfl⟩ := hrel
    obtain ⟨p1, p2, p3, p4, _⟩ := col_pos s.data.toList k (by rw [HL.out]; omega)
    rw [HL.out] at p3 p4
    by_cases hlt : k < n
    · have hks : k < s.size := by omega
      have hnx := where_next s.data.toList k (by rw [HL.out]; omega)
      rw [list_get s k hks] at hnx
      by_cases hb : s[k]'hks = 10
      · have hbb : (((s[k]'hks).toNat : Int) == 10) = true := by rw [hb]; rfl
        rw [if_pos (by rw [hb])] at hnx
        generalize (whereL (spans s.data.toList) (k : Int) 0).1 = A at *
        generalize (whereL (spans s.data.toList) (k : Int) 0).2.1 = B at *
        have Hn := Lib.hid hnx
        clear hnx hb
        go_wp2
        go_round
        case rel => exact ⟨k + 1, by omega, by go_num, by rw [Hn.out], by rw [Hn.out]⟩
        case measure => simp [intOf]; omega
      · have hbb : (((s[k]'hks).toNat : Int) == 10) = false := by
          rw [beq_eq_false_iff_ne]
          intro e
          exact hb (UInt8.toNat_inj.1 (by have e' : (s[k]'hks).toNat = 10 := by omega
                                          exact e'))
        rw [if_neg (fun e => hb (Option.some.inj e))] at hnx
        generalize (whereL (spans s.data.toList) (k : Int) 0).1 = A at *
        generalize (whereL (spans s.data.toList) (k : Int) 0).2.1 = B at *
        have Hn := Lib.hid hnx
        clear hnx hb
        go_wp2
        go_round
        case rel => exact ⟨k + 1, by omega, by go_num, by rw [Hn.out], by rw [Hn.out]⟩
        case measure => simp [intOf]; omega
    · have hkn : k = n := by omega
      subst hkn
      go_wp2
      go_ret3
      exact ⟨rfl, rfl⟩

set_option maxHeartbeats 400000 in
theorem Try.rWhere_out (s : ByteArray) (i : Int) (w : World) (h : i < 0 ∨ (s.size : Int) < i) :
    Calls Try.prog 19 #[.string s, .int .i64 i] w fun e w' => e = .returned (.tuple #[.int .i64 0, .int .i64 0, .int .i64 10]) ∧ w = w' := by
  by_cases h1 : i < 0
  · go_enter Try.func19, Try.ntmps19
    go_wp2
    go_ret3
    exact ⟨rfl, rfl⟩
  · have h2 : (s.size : Int) < i := by omega
    clear h
    go_enter Try.func19, Try.ntmps19
    go_wp2
    go_ret3
    exact ⟨rfl, rfl⟩

def whereAll (l : List UInt8) (i : Int) : Int × Int × Int := if i < 0 then (0, 0, 10) else whereL (spans l) i 0
def placeAll (l : List UInt8) (i c : Int) : Int × Int := if c < 1 then (0, 10) else placeL (spans l) i c 0

theorem Try.rWhere_all (s : ByteArray) (i : Int) (w : World) (hs : s.size ≤ 1000000) :
    Calls Try.prog 19 #[.string s, .int .i64 i] w fun e w' => e = .returned (.tuple #[.int .i64 (whereAll s.data.toList i).1, .int .i64 (whereAll s.data.toList i).2.1, .int .i64 (whereAll s.data.toList i).2.2]) ∧ w = w' := by
  by_cases h : i < 0 ∨ (s.size : Int) < i
  · have e : whereAll s.data.toList i = (0, 0, 10) := by
      unfold whereAll
      split
      · rfl
      · exact where_beyond _ _ (by simp; omega)
    rw [e]
    exact Try.rWhere_out s i w h
  · obtain ⟨n, rfl⟩ := Int.eq_ofNat_of_zero_le (show 0 ≤ i by omega)
    have e : whereAll s.data.toList n = whereL (spans s.data.toList) n 0 := by unfold whereAll; rw [if_neg (by omega)]
    rw [e, (col_pos s.data.toList n (by simp; omega)).2.2.2.2]
    exact Try.rWhere_calls s n w hs (by omega)

set_option maxRecDepth 100000 in
set_option maxHeartbeats 1000000 in
theorem Try.rPlace_calls (s : ByteArray) (i c : Int) (w : World) (hs : s.size ≤ 1000000) :
    Calls Try.prog 21 #[.string s, .int .i64 i, .int .i64 c] w fun e w' => e = .returned (.tuple #[.int .i64 (placeAll s.data.toList i c).1, .int .i64 (placeAll s.data.toList i c).2]) ∧ w = w' := by
  have hl : s.data.toList.length = s.size := by simp
  have HL := Lib.hid hl
  clear hl
  go_enter Try.func21, Try.ntmps21
  go_wp2
  go_loop [8] (fun v => ∃ k : Nat, k ≤ s.size + 1 ∧ v = .int .i64 (k : Int) ∧ ∀ j : Nat, j < k → ¬ ((whereL (spans s.data.toList) (j : Int) 0).1 = i ∧ (whereL (spans s.data.toList) (j : Int) 0).2.1 = c)) (fun v => s.size + 1 - (intOf v).toNat)
  case atStart => exact ⟨0, Nat.zero_le _, rfl, fun j h => by omega⟩
  case round =>
    obtain ⟨k, hk, rfl, hno⟩ := hrel
    have HN := Lib.hid hno
    clear hno
    by_cases hlt : k ≤ s.size
    · obtain ⟨p1, p2, p3, p4, _⟩ := col_pos s.data.toList k (by rw [HL.out]; omega)
      have hcall := fun w1 : World => Try.rWhere_calls s k w1 hs hlt
      by_cases hit : (whereL (spans s.data.toList) (k : Int) 0).1 = i ∧ (whereL (spans s.data.toList) (k : Int) 0).2.1 = c
      · have hp : placeAll s.data.toList i c = ((k : Int), 0) := by
          unfold placeAll
          rw [if_neg (by omega)]
          exact place_some _ _ _ k (by rw [HL.out]; omega) hit
        rw [hit.1, hit.2] at hcall
        have HC := Lib.hid hcall
        have HP := Lib.hid hp
        clear hcall hp hit p1 p2 p3 p4
        go_wp2_with (go_at_call 19; refine (HC.out _).mono ?_; rintro e w' ⟨rfl, rfl⟩)
        go_ret2
        rw [HP.out]
        exact ⟨rfl, rfl⟩
      · have hno2 : ∀ j : Nat, j < k + 1 → ¬ ((whereL (spans s.data.toList) (j : Int) 0).1 = i ∧ (whereL (spans s.data.toList) (j : Int) 0).2.1 = c) := fun j hj => by
          by_cases e : j = k
          · rw [e]; exact hit
          · exact HN.out j (by omega)
        have HN2 := Lib.hid hno2
        have HC := Lib.hid hcall
        generalize (whereL (spans s.data.toList) (k : Int) 0).1 = A at *
        generalize (whereL (spans s.data.toList) (k : Int) 0).2.1 = B at *
        have hpart : ((A == i) = false) ∨ ((A == i) = true ∧ (B == c) = false) := by
          by_cases hA : A = i
          · exact .inr ⟨beq_iff_eq.2 hA, beq_eq_false_iff_ne.2 (fun e => hit ⟨hA, e⟩)⟩
          · exact .inl (beq_eq_false_iff_ne.2 hA)
        clear hno2 hcall hit p1 p2 p3 p4
        rcases hpart with hA | ⟨hA, hB⟩
        all_goals
          go_wp2_with (go_at_call 19; refine (HC.out _).mono ?_; rintro e w' ⟨rfl, rfl⟩)
          go_round
          case rel => exact ⟨k + 1, by omega, by go_num, HN2.out⟩
          case measure => simp [intOf]; omega
    · have hp : placeAll s.data.toList i c = (0, 10) := by
        unfold placeAll
        split
        · rfl
        · exact place_none _ _ _ (by omega) (fun j hj => HN.out j (by rw [HL.out] at hj; omega))
      have HP := Lib.hid hp
      clear hp
      go_wp2
      go_ret2
      rw [HP.out]
      exact ⟨rfl, rfl⟩

theorem Try.Where_all (s : ByteArray) (i : Int) (w : World) (hs : s.size ≤ 1000000) (h9 : i ≤ 9223372036854775807) :
    Calls Try.prog 18 #[.string s, .int .i64 i] w fun e w' => e = .returned (.tuple #[.int .i64 (whereAll s.data.toList i).1, .int .i64 (whereAll s.data.toList i).2.1, .int .i64 (whereAll s.data.toList i).2.2]) ∧ Below w.heap.size w w' := by
  unfold whereAll
  by_cases h : i < 0
  · rw [if_pos h]; exact Try.Where_neg s i w h
  · rw [if_neg h]; exact Try.Where_calls s i w hs (by omega) h9
theorem Try.Place_all (s : ByteArray) (i c : Int) (w : World) (hs : s.size ≤ 1000000) (h9 : c ≤ 9223372036854775807) :
    Calls Try.prog 20 #[.string s, .int .i64 i, .int .i64 c] w fun e w' => e = .returned (.tuple #[.int .i64 (placeAll s.data.toList i c).1, .int .i64 (placeAll s.data.toList i c).2]) ∧ Below w.heap.size w w' := by
  unfold placeAll
  by_cases h : c < 1
  · rw [if_pos h]; exact Try.Place_neg s i c w h
  · rw [if_neg h]; exact Try.Place_calls s i c w hs (by omega) h9

set_option maxRecDepth 100000 in
set_option maxHeartbeats 1000000 in
theorem Try.CursorWhere_calls (s : ByteArray) (a i c : Int) (w : World) (hs : s.size ≤ maxLen) (ha : a ≤ 9223372036854775807) (hc : c ≤ 9223372036854775807) :
    Calls Try.prog 4 #[.string s, .int .i64 a, .int .i64 i, .int .i64 c] w fun e w' => e = .returned (.bool true) ∧ Below w.heap.size w w' := by
  unfold maxLen at hs
  by_cases hbig : 500 < s.size
  · have hd : decide ((500 : Int) < (s.size : Int)) = true := decide_eq_true (by omega)
    clear hbig
    go_enter Try.func4, Try.ntmps4
    go_wp2_with (go_at_call 9; refine (Try.shown_calls _).mono ?_; rintro e w1 ⟨rfl, hb1⟩)
    go_ret
    exact ⟨rfl, hb1⟩
  · have hd : decide ((500 : Int) < (s.size : Int)) = false := decide_eq_false (by omega)
    have k1 := fun w1 : World => Try.Where_all s a w1 (by omega) ha
    have k2 := fun w1 : World => Try.rWhere_all s a w1 (by omega)
    have k3 := fun w1 : World => Try.Place_all s i c w1 (by omega) hc
    have k4 := fun w1 : World => Try.rPlace_calls s i c w1 (by omega)
    generalize (whereAll s.data.toList a).1 = A1 at *
    generalize (whereAll s.data.toList a).2.1 = A2 at *
    generalize (whereAll s.data.toList a).2.2 = A3 at *
    generalize (placeAll s.data.toList i c).1 = P1 at *
    generalize (placeAll s.data.toList i c).2 = P2 at *
    have K1 := Lib.hid k1
    have K2 := Lib.hid k2
    have K3 := Lib.hid k3
    have K4 := Lib.hid k4
    clear k1 k2 k3 k4 hbig ha hc hs
    go_enter Try.func4, Try.ntmps4
    go_wp2_with (first
      | (go_at_call 9; refine (Try.shown_calls _).mono ?_; rintro e w1 ⟨rfl, hb1⟩)
      | (go_at_call 18; refine (K1.out _).mono ?_; rintro e w2 ⟨rfl, hb2⟩)
      | (go_at_call 19; refine (K2.out _).mono ?_; rintro e w' ⟨rfl, rfl⟩)
      | (go_at_call 20; refine (K3.out _).mono ?_; rintro e w3 ⟨rfl, hb3⟩)
      | (go_at_call 21; refine (K4.out _).mono ?_; rintro e w' ⟨rfl, rfl⟩))
    go_ret
    exact ⟨rfl, (hb1.trans (hb2.mono hb1.size)).trans (hb3.mono (Nat.le_trans hb1.size hb2.size))⟩
#print axioms Try.CursorWhere_calls
end Go.Proofs
