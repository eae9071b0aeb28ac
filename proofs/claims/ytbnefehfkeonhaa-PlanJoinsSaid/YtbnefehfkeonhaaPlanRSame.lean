/- The document's own Same of layer 9. Conditions: at most two million routes; routes of at most two million stops. -/
import Derived.Test.YtbnefehfkeonhaaPlanMem
import Derived.Deep.RegionWith
namespace Go.Proofs
open Go.RowKit Go.Plans
attribute [local go_sem] Oper.semAt_some
theorem rts_more {l r : Rts} {k : Nat} {x : List Int} (hl : l[k]? = some x) (hr : r[k]? = some x) (h : l.take k = r.take k) : l.take (k + 1) = r.take (k + 1) := by
  rw [List.take_add_one, List.take_add_one, hl, hr, h]
theorem rts_ne {l r : Rts} {k : Nat} {x y : List Int} (hl : l[k]? = some x) (hr : r[k]? = some y) (h : x ≠ y) : l ≠ r := fun e => h (by rw [e, hr] at hl; exact (Option.some.inj hl).symm)
set_option maxRecDepth 100000 in
set_option maxHeartbeats 2000000 in
theorem Try.RPlanSame_some (v u : Value) (rr ss : Rts) (w : World) (hl : rr.length ≤ 2000000) (he : rr.length = ss.length) (hls : ∀ l ∈ rr, l.length ≤ 2000000) (hv : HasRts w v rr) (hu : HasRts w u ss) :
    Calls Try.prog 13 #[planV v, planV u] w fun e w' => e = .returned (.bool (decide (rr = ss))) ∧ Below w.heap.size w w' := by
  have HV := Lib.hid hv
  have HU := Lib.hid hu
  obtain ⟨ao, cap, rfl⟩ := hv.len
  obtain ⟨ao', cap', rfl⟩ := hu.len
  rw [← he] at HU ⊢
  obtain ⟨n, hn⟩ : ∃ n, rr.length = n := ⟨_, rfl⟩
  rw [hn] at hl HV HU he ⊢
  have HM := Lib.hid hls
  have HN := Lib.hid hn
  have HE := Lib.hid he
  have HI : Hid (∀ v u l r W, l.length ≤ 2000000 → HasInts W v l → HasInts W u r → Calls Try.prog 21 #[v, u] W fun e w' => e = .returned (.bool (decide (l = r))) ∧ Below W.heap.size W w') := fun v u l r W h0 h1 h2 => Try.RInts_calls v u l r W h0 h1 h2
  have hb0 := ((Below.refl _ w).alloc (Nat.le_refl _) (.cells #[.slice ao n cap] 30)).alloc (by simp) (.cells #[.slice ao' n cap'] 30)
  have A0 := (BoxAt.new w (.slice ao n cap) 30).next ((Below.refl _ _).alloc (Nat.le_refl _) (.cells #[.slice ao' n cap'] 30))
  have B0 := BoxAt.new (w.alloc (.cells #[.slice ao n cap] 30)) (.slice ao' n cap') 30
  rw [show (w.alloc (.cells #[.slice ao n cap] 30)).heap.size = w.heap.size + 1 from by simp] at B0
  clear hv hu hn hls he
  unfold planV
  go_enter Try.func13, Try.ntmps13
  go_wp2
  go_loopw [5] (fun i wr => ∃ k : Nat, k ≤ n ∧ i = .int .i64 (k : Int) ∧ Hid (rr.take k = ss.take k) ∧ BoxAt wr w.heap.size (.slice ao n cap) ∧ BoxAt wr (w.heap.size + 1) (.slice ao' n cap') ∧ Below w.heap.size w wr) (fun i _ => n - (intOf i).toNat)
  case atStart => exact ⟨0, Nat.zero_le _, rfl, rfl, A0, B0, hb0⟩
  case round =>
    obtain ⟨k, hk, rfl, HT, hA, hB, hW⟩ := hrel
    have HA := Lib.hid hA
    have HB := Lib.hid hB
    have HW := Lib.hid hW
    have a0 := hA.1
    have a1 := hA.2
    have b0 := hB.1
    have b1 := hB.2
    clear A0 B0 hb0 hA hB hW
    by_cases hlt : k < n
    · obtain ⟨l, hp⟩ : ∃ l, rr[k]? = some l := ⟨_, List.getElem?_eq_getElem (by have := HN.out; omega)⟩
      obtain ⟨r, hr⟩ : ∃ r, ss[k]? = some r := ⟨_, List.getElem?_eq_getElem (by have := HE.out; omega)⟩
      have hll := HM.out l (List.mem_of_getElem? hp)
      have HP := Lib.hid hp
      have HR := Lib.hid hr
      obtain ⟨b, off, cp, x, hv, hbB, hbw, hc, hx⟩ := HV.out.get hp (Nat.le_refl _) HW.out
      obtain ⟨b', off', cp', y, hv', hbB', hbw', hc', hy⟩ := HU.out.get hr (Nat.le_refl _) HW.out
      have HX := Lib.hid hx
      have HY := Lib.hid hy
      injection hv with h1 h2 h3
      subst h1
      clear h2 h3
      injection hv' with h1 h2 h3
      subst h1
      have hki : (k : Int) < (n : Int) := by omega
      obtain ⟨ax, cx, rfl⟩ := hx.len
      obtain ⟨ay, cy, rfl⟩ := hy.len
      clear hp hr hx hy
      have HI2 := HI
      clear h2 h3 HI
      by_cases hxy : l = r
      · subst hxy
        have HT2 : Hid (rr.take (k + 1) = ss.take (k + 1)) := rts_more HP.out HR.out HT.out
        have HQ : Hid (∀ W', Below wr.heap.size wr W' → Calls Try.prog 21 #[.slice ax l.length cx, .slice ay l.length cy] W' fun e w' => e = .returned (.bool true) ∧ Below W'.heap.size W' w') := fun W' hb => (HI2.out _ _ l l W' hll (HX.out.next hb) (HY.out.next hb)).mono fun e w' h => ⟨h.1.trans (by rw [decide_eq_true rfl]), h.2⟩
        clear HI2 HX HY HV HU HT HP HR
        go_wp2
        go_region_with (go_at_call 21; (with_reducible refine Calls.mono (HQ.out _ (by first | exact Below.refl _ _ | exact (Below.refl _ _).drew | exact lbelow_drewN (Below.refl _ _) _)) ?_); rintro e w2 ⟨rfl, hb2⟩)
        all_goals
          have hb3 : Below wr.heap.size wr w2 := by first | exact hb2 | exact Below.trans (Below.drew (Below.refl _ _)) hb2
          clear hb2 HQ
          have HA2 := Lib.hid (HA.out.next hb3)
          have HB2 := Lib.hid (HB.out.next hb3)
          have HW2 := Lib.hid (HW.out.trans (hb3.mono HW.out.size))
          clear HA HB HW hb3
          go_wp2
          exact ⟨⟨k + 1, by omega, by go_num, HT2, HA2.out, HB2.out, HW2.out⟩, by simp [intOf]; omega⟩
      · have HF : Hid (decide (rr = ss) = false) := decide_eq_false (rts_ne HP.out HR.out hxy)
        have HQ : Hid (∀ W', Below wr.heap.size wr W' → Calls Try.prog 21 #[.slice ax l.length cx, .slice ay r.length cy] W' fun e w' => e = .returned (.bool false) ∧ Below W'.heap.size W' w') := fun W' hb => (HI2.out _ _ l r W' hll (HX.out.next hb) (HY.out.next hb)).mono fun e w' h => ⟨h.1.trans (by rw [decide_eq_false hxy]), h.2⟩
        clear HI2 HX HY HV HU HT HP HR
        go_wp2
        go_region_with (go_at_call 21; (with_reducible refine Calls.mono (HQ.out _ (by first | exact Below.refl _ _ | exact (Below.refl _ _).drew | exact lbelow_drewN (Below.refl _ _) _)) ?_); rintro e w2 ⟨rfl, hb2⟩)
        all_goals
          have hb3 : Below wr.heap.size wr w2 := by first | exact hb2 | exact Below.trans (Below.drew (Below.refl _ _)) hb2
          clear hb2 HQ
          have HW2 := Lib.hid (HW.out.trans (hb3.mono HW.out.size))
          clear HA HB HW hb3
          go_wp2
          go_ret
          exact ⟨by rw [HF.out]; rfl, HW2.out⟩
    · obtain rfl : k = n := by omega
      have HF : Hid (decide (rr = ss) = true) := by
        unfold Hid
        have h := HT.out
        rw [List.take_of_length_le (by have := HN.out; omega), List.take_of_length_le (by have := HE.out; omega)] at h
        exact decide_eq_true h
      go_wp2
      go_ret
      exact ⟨by rw [HF.out]; rfl, HW.out⟩
set_option maxRecDepth 100000 in
theorem Try.RPlanSame_far (ao ao' : Option Addr) (n n' cap cap' : Nat) (w : World) (h : n ≠ n') :
    Calls Try.prog 13 #[planV (.slice ao n cap), planV (.slice ao' n' cap')] w fun e w' => e = .returned (.bool false) ∧ Below w.heap.size w w' := by
  have d : ((n : Int) != (n' : Int)) = true := bne_iff_ne.2 (by omega)
  have hb0 := ((Below.refl _ w).alloc (Nat.le_refl _) (.cells #[.slice ao n cap] 30)).alloc (by simp) (.cells #[.slice ao' n' cap'] 30)
  unfold planV
  go_enter Try.func13, Try.ntmps13
  go_wp2
  go_ret
  exact ⟨rfl, hb0⟩
theorem Try.RPlanSame_calls (v u : Value) (rr ss : Rts) (w : World) (hl : rr.length ≤ 2000000) (hls : ∀ l ∈ rr, l.length ≤ 2000000) (hv : HasRts w v rr) (hu : HasRts w u ss) :
    Calls Try.prog 13 #[planV v, planV u] w fun e w' => e = .returned (.bool (decide (rr = ss))) ∧ Below w.heap.size w w' := by
  by_cases he : rr.length = ss.length
  · exact Try.RPlanSame_some v u rr ss w hl he hls hv hu
  · obtain ⟨ao, cap, rfl⟩ := hv.len
    obtain ⟨ao', cap', rfl⟩ := hu.len
    rw [decide_eq_false (fun e => he (by rw [e]))]
    exact Try.RPlanSame_far ao ao' _ _ cap cap' w he
end Go.Proofs
