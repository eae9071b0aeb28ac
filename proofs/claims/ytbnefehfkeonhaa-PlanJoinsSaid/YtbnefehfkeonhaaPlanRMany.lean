/- The document's own Many of layer 9. Conditions: at most two million routes; fewer than 2^62 stops. -/
import Derived.Test.YtbnefehfkeonhaaPlanMem
namespace Go.Proofs
open Go.RowKit Go.Plans
attribute [local go_sem] Oper.semAt_some
set_option maxRecDepth 100000 in
set_option maxHeartbeats 1000000 in
theorem Try.RMany_calls (v : Value) (rr : Rts) (w : World) (hl : rr.length ≤ 2000000) (hm : many rr ≤ 4611686018427387904) (hv : HasRts w v rr) :
    Calls Try.prog 17 #[planV v] w fun e w' => e = .returned (.int .i64 (many rr : Int)) ∧ Below w.heap.size w w' := by
  have HV := Lib.hid hv
  obtain ⟨ao, cap, rfl⟩ := hv.len
  obtain ⟨n, hn⟩ : ∃ n, rr.length = n := ⟨_, rfl⟩
  rw [hn] at hl HV ⊢
  have HM := Lib.hid hm
  have HN := Lib.hid hn
  have hb0 := (Below.refl _ w).alloc (Nat.le_refl _) (.cells #[.slice ao n cap] 30)
  have B0 := BoxAt.new w (.slice ao n cap) 30
  clear hv hn hm
  unfold planV
  go_enter Try.func17, Try.ntmps17
  go_wp2
  go_loopw [3, 4] (fun m i wr => ∃ k : Nat, k ≤ n ∧ m = .int .i64 (many (rr.take k) : Int) ∧ i = .int .i64 (k : Int) ∧ BoxAt wr w.heap.size (.slice ao n cap) ∧ Below w.heap.size w wr) (fun _ i _ => n - (intOf i).toNat)
  case atStart => exact ⟨0, Nat.zero_le _, rfl, rfl, B0, hb0⟩
  case round =>
    obtain ⟨k, hk, rfl, rfl, hB, hW⟩ := hrel
    have HB := Lib.hid hB
    have HW := Lib.hid hW
    have b0 := hB.1
    have b1 := hB.2
    clear B0 hb0 hB hW
    by_cases hlt : k < n
    · obtain ⟨l, hp⟩ : ∃ l, rr[k]? = some l := ⟨_, List.getElem?_eq_getElem (by have := HN.out; omega)⟩
      obtain ⟨b, off, cap', u, hv, hbB, hbw, hc, hu⟩ := HV.out.get hp (Nat.le_refl _) HW.out
      have e1 := many_take hp
      have e2 := many_take_le rr (k + 1)
      have e3 := HM.out
      obtain ⟨ao2, cap2, rfl⟩ := hu.len
      injection hv with h1 h2 h3
      subst h1
      obtain ⟨M, hMM⟩ : ∃ M, many (rr.take k) = M := ⟨_, rfl⟩
      obtain ⟨L, hL⟩ : ∃ L, l.length = L := ⟨_, rfl⟩
      rw [hMM, hL] at e1
      have HE := Lib.hid e1
      have hML : M + L ≤ 4611686018427387904 := by omega
      rw [hMM]
      rw [hL] at hc
      have hki : (k : Int) < (n : Int) := by omega
      clear hp hu e1 e2 e3 h2 h3 hMM hL
      go_wp2
      exact ⟨⟨k + 1, by omega, by rw [HE.out]; go_num, by go_num, HB.out, HW.out⟩, by simp [intOf]; omega⟩
    · obtain rfl : k = n := by omega
      have HT : Hid (many rr = many (rr.take k)) := by
        unfold Hid
        rw [List.take_of_length_le (by have := HN.out; omega)]
      go_wp2
      go_ret
      exact ⟨by rw [HT.out]; rfl, HW.out⟩
end Go.Proofs
