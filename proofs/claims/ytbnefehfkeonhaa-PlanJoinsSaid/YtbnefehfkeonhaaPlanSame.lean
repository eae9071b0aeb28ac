/- plan.Same of the program (slices.EqualFunc at slices of ints). Conditions: at most two million routes; routes of at most two million stops. -/
import Derived.Test.YtbnefehfkeonhaaPlanRSame
import Derived.Test.YtbnefehfkeonhaaLayoutEqual
namespace Go.Proofs
open Go.RowKit Go.Plans
attribute [local go_sem] Oper.semAt_some
set_option maxRecDepth 100000 in
set_option maxHeartbeats 2000000 in
theorem Try.EqualFunc_some (v u : Value) (rr ss : Rts) (w : World) (hl : rr.length ≤ 2000000) (he : rr.length = ss.length) (hls : ∀ l ∈ rr, l.length ≤ 2000000) (hv : HasRts w v rr) (hu : HasRts w u ss) :
    Calls Try.prog 26 #[v, u, .func (.func 27) #[] #[]] w fun e w' => e = .returned (.bool (decide (rr = ss))) ∧ Below w.heap.size w w' := by
  have HV := Lib.hid hv
  have HU := Lib.hid hu
  obtain ⟨ao, cap, rfl⟩ := hv.len
  obtain ⟨ao', cap', rfl⟩ := hu.len
  rw [← he] at HU ⊢
  obtain ⟨n, hn⟩ : ∃ n, rr.length = n := ⟨_, rfl⟩
  rw [hn] at hl HV HU he ⊢
  have HM := Lib.hid hls
  have HN := Lib.hid hn
  have HE := Lib.hid he
  have HI : Hid (∀ v u l r W, l.length ≤ 2000000 → HasInts W v l → HasInts W u r → Calls Try.prog 27 #[v, u] W fun e w' => e = .returned (.bool (decide (l = r))) ∧ Below W.heap.size W w') := fun v u l r W h0 h1 h2 => Try.LEqual_calls v u l r W h0 h1 h2
  clear hv hu hn hls he
  go_enter Try.func26, Try.ntmps26
  go_wp2
  go_loopw [17] (fun i wr => ∃ k : Nat, k ≤ n ∧ i = .int .i64 (k : Int) ∧ Hid (rr.take k = ss.take k) ∧ Below w.heap.size w wr) (fun i _ => n - (intOf i).toNat)
  case atStart => exact ⟨0, Nat.zero_le _, rfl, rfl, Below.refl _ _⟩
  case round =>
    obtain ⟨k, hk, rfl, HT, hW⟩ := hrel
    have HW := Lib.hid hW
    clear hW
    by_cases hlt : k < n
    · obtain ⟨l, hp⟩ : ∃ l, rr[k]? = some l := ⟨_, List.getElem?_eq_getElem (by have := HN.out; omega)⟩
      obtain ⟨r, hr⟩ : ∃ r, ss[k]? = some r := ⟨_, List.getElem?_eq_getElem (by have := HE.out; omega)⟩
      have hll := HM.out l (List.mem_of_getElem? hp)
      have HP := Lib.hid hp
      have HR := Lib.hid hr
      obtain ⟨b, off, cp, x, hv, hbB, hbw, hc, hx⟩ := HV.out.get hp (Nat.le_refl _) HW.out
      obtain ⟨b', off', cp', y, hv', hbB', hbw', hc', hy⟩ := HU.out.get hr (Nat.le_refl _) HW.out
      injection hv with h1 h2 h3
      subst h1
      clear h2 h3
      injection hv' with h1 h2 h3
      subst h1
      have hki : (k : Int) < (n : Int) := by omega
      have HQ := Lib.hid (HI.out x y l r wr hll hx hy)
      obtain ⟨ax, cx, rfl⟩ := hx.len
      obtain ⟨ay, cy, rfl⟩ := hy.len
      clear hp hr hx hy h2 h3 hll
      by_cases hxy : l = r
      · subst hxy
        have HT2 : Hid (rr.take (k + 1) = ss.take (k + 1)) := rts_more HP.out HR.out HT.out
        have HQ2 : Hid (Calls Try.prog 27 #[.slice ax l.length cx, .slice ay l.length cy] wr fun e w' => e = .returned (.bool true) ∧ Below wr.heap.size wr w') := HQ.out.mono fun e w' h => ⟨h.1.trans (by rw [decide_eq_true rfl]), h.2⟩
        clear HV HU HT HP HR HQ HM HI
        go_wp2_with (go_at_call 27; (with_reducible refine HQ2.out.mono ?_); rintro e w2 ⟨rfl, hb2⟩)
        have HW2 := Lib.hid (HW.out.trans (hb2.mono HW.out.size))
        clear hb2 HW HQ2
        go_roundw
        case rel => exact ⟨k + 1, by omega, by go_num, HT2, HW2.out⟩
        case measure => simp [intOf]; omega
      · have HF : Hid (decide (rr = ss) = false) := decide_eq_false (rts_ne HP.out HR.out hxy)
        have HQ2 : Hid (Calls Try.prog 27 #[.slice ax l.length cx, .slice ay r.length cy] wr fun e w' => e = .returned (.bool false) ∧ Below wr.heap.size wr w') := HQ.out.mono fun e w' h => ⟨h.1.trans (by rw [decide_eq_false hxy]), h.2⟩
        clear HV HU HT HP HR HQ HM HI
        go_wp2_with (go_at_call 27; (with_reducible refine HQ2.out.mono ?_); rintro e w2 ⟨rfl, hb2⟩)
        have HW2 := Lib.hid (HW.out.trans (hb2.mono HW.out.size))
        clear hb2 HW HQ2
        go_ret
        exact ⟨by rw [HF.out]; rfl, HW2.out⟩
    · obtain rfl : k = n := by omega
      have HF : Hid (decide (rr = ss) = true) := by
        unfold Hid
        have h := HT.out
        rw [List.take_of_length_le (by have := HN.out; omega), List.take_of_length_le (by have := HE.out; omega)] at h
        exact decide_eq_true h
      go_wp2
      go_ret
      exact ⟨by rw [HF.out]; rfl, HW.out⟩
set_option maxRecDepth 100000 in
theorem Try.EqualFunc_far (ao ao' : Option Addr) (n n' cap cap' : Nat) (w : World) (h : n ≠ n') :
    Calls Try.prog 26 #[.slice ao n cap, .slice ao' n' cap', .func (.func 27) #[] #[]] w fun e w' => e = .returned (.bool false) ∧ Below w.heap.size w w' := by
  have d : ((n : Int) != (n' : Int)) = true := bne_iff_ne.2 (by omega)
  go_enter Try.func26, Try.ntmps26
  go_wp2
  go_ret
  exact ⟨rfl, Below.refl _ _⟩
theorem Try.EqualFunc_calls (v u : Value) (rr ss : Rts) (w : World) (hl : rr.length ≤ 2000000) (hls : ∀ l ∈ rr, l.length ≤ 2000000) (hv : HasRts w v rr) (hu : HasRts w u ss) :
    Calls Try.prog 26 #[v, u, .func (.func 27) #[] #[]] w fun e w' => e = .returned (.bool (decide (rr = ss))) ∧ Below w.heap.size w w' := by
  by_cases he : rr.length = ss.length
  · exact Try.EqualFunc_some v u rr ss w hl he hls hv hu
  · obtain ⟨ao, cap, rfl⟩ := hv.len
    obtain ⟨ao', cap', rfl⟩ := hu.len
    rw [decide_eq_false (fun e => he (by rw [e]))]
    exact Try.EqualFunc_far ao ao' _ _ cap cap' w he
theorem Try.Same_calls (v u : Value) (rr ss : Rts) (w : World) (hl : rr.length ≤ 2000000) (hls : ∀ l ∈ rr, l.length ≤ 2000000) (hv : HasRts w v rr) (hu : HasRts w u ss) :
    Calls Try.prog 18 #[planV v, planV u] w fun e w' => e = .returned (.bool (decide (rr = ss))) ∧ Below w.heap.size w w' := by
  obtain ⟨d, hd⟩ : ∃ d, decide (rr = ss) = d := ⟨_, rfl⟩
  have HQ : Hid (∀ X, Below w.heap.size w X → Calls Try.prog 26 #[v, u, .func (.func 27) #[] #[]] X fun e w' => e = .returned (.bool d) ∧ Below X.heap.size X w') := fun X hX => by
    rw [← hd]
    exact Try.EqualFunc_calls v u rr ss X hl hls (hv.next hX) (hu.next hX)
  obtain ⟨ao, cap, rfl⟩ := hv.len
  obtain ⟨ao', cap', rfl⟩ := hu.len
  have hb0 := ((Below.refl _ w).alloc (Nat.le_refl _) (.cells #[.slice ao rr.length cap] 24)).alloc (by simp) (.cells #[.slice ao' ss.length cap'] 24)
  rw [hd]
  generalize rr.length = n at *
  generalize ss.length = n' at *
  clear hv hu hl hls hd
  have HB := Lib.hid hb0
  clear hb0
  unfold planV
  go_enter Try.func18, Try.ntmps18
  go_wp2_with (go_at_call 26; (with_reducible refine (HQ.out _ HB.out).mono ?_); rintro e w2 ⟨rfl, hb2⟩)
  go_ret
  exact ⟨rfl, HB.out.trans (hb2.mono HB.out.size)⟩
#print axioms Try.Same_calls
end Go.Proofs
