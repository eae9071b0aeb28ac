/- The document's digits. Conditions: a text that a string can be; at most 12 digits. -/
import Derived.Test.YtfhjndldiggchaaDoorReader
namespace Go.Fx
/-- The document's digits: the number, and whether they are one to so many. -/
def digR (l : List UInt8) (most : Nat) : Int × Bool := if 1 ≤ l.length ∧ l.length ≤ most ∧ l.all dg = true then (valF 0 l, true) else (0, false)
theorem dg_not {c : UInt8} (h : dg c = false) : (c.toNat : Int) < 48 ∨ 57 < (c.toNat : Int) := by
  simp [dg, digB] at h; omega
end Go.Fx
namespace Go.Proofs
open Go.RowKit Go.Fx
attribute [local go_sem] Oper.semAt_some

theorem ret_dig {a : Int} {b : Bool} {x : Int × Bool} (h : x = (a, b)) : Ending.returned (.tuple #[.int .i64 a, .bool b]) = .returned (.tuple #[.int .i64 x.1, .bool x.2]) := by rw [h]
theorem all_of_take {l : List UInt8} {j : Nat} (h : ∀ c ∈ l.take j, dg c = true) (hj : l.length ≤ j) : l.all dg = true := by
  rw [List.take_of_length_le hj] at h
  exact List.all_eq_true.2 h
theorem all_not {l : List UInt8} {j : Nat} {c : UInt8} (h : l[j]? = some c) (hd : dg c = false) : ¬ l.all dg = true := fun e => by
  rw [List.all_eq_true] at e
  have := e c (List.mem_of_getElem? h)
  rw [hd] at this; cases this

set_option maxHeartbeats 400000 in
theorem Tryd.rdigits_len (s : ByteArray) (most : Nat) (hs : s.size ≤ 9223372036854775807) (hl : ¬ (1 ≤ s.size ∧ s.size ≤ most)) (w : World) :
    Calls Tryd.prog 28 #[.string s, .int .i64 (most : Int)] w fun e w' => e = .returned (.tuple #[.int .i64 (digR s.data.toList most).1, .bool (digR s.data.toList most).2]) ∧ w = w' := by
  have HR : Hid (digR s.data.toList most = (0, false)) := by unfold Hid digR; rw [if_neg (by rw [Array.length_toList]; exact fun h => hl ⟨h.1, h.2.1⟩)]
  by_cases h1 : s.size < 1
  · clear hl
    go_enter Tryd.func28, Tryd.ntmps28
    go_wp2
    go_ret2
    exact ⟨ret_dig HR.out, rfl⟩
  · have h2 : most < s.size := by omega
    clear hl
    go_enter Tryd.func28, Tryd.ntmps28
    go_wp2
    go_ret2
    exact ⟨ret_dig HR.out, rfl⟩
set_option maxHeartbeats 400000 in
theorem Tryd.rdigits_in (s : ByteArray) (most : Nat) (hm : most ≤ 12) (h1 : 1 ≤ s.size) (h2 : s.size ≤ most) (w : World) :
    Calls Tryd.prog 28 #[.string s, .int .i64 (most : Int)] w fun e w' => e = .returned (.tuple #[.int .i64 (digR s.data.toList most).1, .bool (digR s.data.toList most).2]) ∧ w = w' := by
  have hb1 : decide ((s.size : Int) < 1) = false := decide_eq_false (by omega)
  have hb2 : decide (s.size < 1) = false := decide_eq_false (by omega)
  have hb3 : decide (most < s.size) = false := decide_eq_false (by omega)
  go_enter Tryd.func28, Tryd.ntmps28
  go_wp2
  go_outline
  go_loop [4, 5, 6, 7] (fun _ _ v i => ∃ (j : Nat) (n : Int), j ≤ s.size ∧ i = .int .i64 (j : Int) ∧ v = .int .i64 n ∧ Hid (n = valF 0 (s.data.toList.take j) ∧ ∀ c ∈ s.data.toList.take j, dg c = true)) (fun _ _ _ i => s.size - (intOf i).toNat)
  case atStart => exact ⟨0, 0, Nat.zero_le _, rfl, rfl, ⟨by simp [valF], by simp⟩⟩
  case round =>
    obtain ⟨j, n, hj, rfl, rfl, HN⟩ := hrel
    have hnb := valF_bd (a := 0) 0 (by omega) (by decide) (s.data.toList.take j) HN.out.2
    rw [← HN.out.1] at hnb
    have hnq : n ≤ 999999999999 := by
      have e1 : (s.data.toList.take j).length ≤ j := List.length_take_le _ _
      have e2 : 10 ^ (0 + (s.data.toList.take j).length) ≤ 10 ^ 12 := Nat.pow_le_pow_right (by omega) (by omega)
      omega
    have hn0 := hnb.1
    clear hnb
    by_cases hlt : j < s.size
    · have hget : s.data.toList[j]? = some s[j] := by
        have h' : j < s.data.toList.length := by simpa using hlt
        rw [List.getElem?_eq_getElem h']; rfl
      by_cases hd : dg s[j] = true
      · have hd2 := dg_bd hd
        have HX : Hid (10 * n + ((s[j].toNat : Int) - 48) = valF 0 (s.data.toList.take (j + 1)) ∧ ∀ c ∈ s.data.toList.take (j + 1), dg c = true) := by
          have HS := take_snoc hget
          refine ⟨by rw [HS, valF_snoc, ← HN.out.1], ?_⟩
          rw [HS]
          intro c hc'
          rcases List.mem_append.1 hc' with h | h
          · exact HN.out.2 c h
          · rw [List.mem_singleton.1 h]; exact hd
        clear hd hget
        go_wp2
        go_round
        case rel => exact ⟨j + 1, 10 * n + ((s[j].toNat : Int) - 48), by omega, by go_num, by go_num, HX⟩
        case measure => simp [intOf]; omega
      · simp only [Bool.not_eq_true] at hd
        have hd2 := dg_not hd
        have HR : Hid (digR s.data.toList most = (0, false)) := by unfold Hid digR; rw [if_neg (fun h => all_not hget hd h.2.2)]
        clear hd hget
        rcases hd2 with hd2 | hd2
        · go_wp2
          go_ret2
          exact ⟨ret_dig HR.out, rfl⟩
        · go_wp2
          go_ret2
          exact ⟨ret_dig HR.out, rfl⟩
    · have hge : s.size ≤ j := by omega
      have HR : Hid (digR s.data.toList most = (n, true)) := by
        unfold Hid digR
        have hl : s.data.toList.length ≤ j := by rw [Array.length_toList]; exact hge
        rw [if_pos ⟨by rw [Array.length_toList]; exact h1, by rw [Array.length_toList]; exact h2, all_of_take HN.out.2 hl⟩, HN.out.1, List.take_of_length_le hl]
      go_wp2
      go_ret2
      exact ⟨ret_dig HR.out, rfl⟩
theorem Tryd.rdigits_any (s : ByteArray) (most : Nat) (hm : most ≤ 12) (hs : s.size ≤ 9223372036854775807) (w : World) :
    Calls Tryd.prog 28 #[.string s, .int .i64 (most : Int)] w fun e w' => e = .returned (.tuple #[.int .i64 (digR s.data.toList most).1, .bool (digR s.data.toList most).2]) ∧ w = w' := by
  by_cases h : 1 ≤ s.size ∧ s.size ≤ most
  · exact Tryd.rdigits_in s most hm h.1 h.2 w
  · exact Tryd.rdigits_len s most hs h w
#print axioms Tryd.rdigits_any
end Go.Proofs
