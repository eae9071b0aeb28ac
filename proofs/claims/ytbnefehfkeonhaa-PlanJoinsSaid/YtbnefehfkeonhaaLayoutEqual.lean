/- slices.Equal at slices of ints. Conditions: at most two million numbers. -/
import Derived.Test.YtbnefehfkeonhaaInts
namespace Go.Proofs
open Go.RowKit Go.Shelf Go.Layout
attribute [local go_sem] Oper.semAt_some

set_option maxRecDepth 100000 in
set_option maxHeartbeats 1000000 in
theorem Try.LEqual_some (b off cap b' off' cap' : Nat) (l r : List Int) (w : World) (hl : l.length ≤ 2000000) (he : l.length = r.length) (hv : IntAt w b off l) (hu : IntAt w b' off' r) :
    Calls Try.prog 27 #[.slice (some ⟨b, off, none⟩) l.length cap, .slice (some ⟨b', off', none⟩) r.length cap'] w fun e w' => e = .returned (.bool (decide (l = r))) ∧ Below w.heap.size w w' := by
  have HV := Lib.hid hv
  have HU := Lib.hid hu
  rw [← he]
  obtain ⟨n, hn⟩ : ∃ n, l.length = n := ⟨_, rfl⟩
  rw [hn] at hl he ⊢
  have HN := Lib.hid hn
  have HE := Lib.hid he
  clear hn he hv hu
  go_enter Try.func27, Try.ntmps27
  go_wp2
  go_loopw [13] (fun i wr => ∃ k : Nat, k ≤ n ∧ i = .int .i64 (k : Int) ∧ Hid (l.take k = r.take k) ∧ Below w.heap.size w wr) (fun i _ => n - (intOf i).toNat)
  case atStart => exact ⟨0, Nat.zero_le _, rfl, rfl, Below.refl _ _⟩
  case round =>
    obtain ⟨k, hk, rfl, hT, hB⟩ := hrel
    by_cases hlt : k < n
    · obtain ⟨x, hx⟩ : ∃ x, l[k]? = some x := ⟨_, List.getElem?_eq_getElem (by have := HN.out; omega)⟩
      obtain ⟨y, hy⟩ : ∃ y, r[k]? = some y := ⟨_, List.getElem?_eq_getElem (by have := HE.out; omega)⟩
      have x0 := (hB.cell (p := ⟨b, off + k, none⟩) HV.out.1).trans (HV.out.2 k x hx)
      have y0 := (hB.cell (p := ⟨b', off' + k, none⟩) HU.out.1).trans (HU.out.2 k y hy)
      have hki : (k : Int) < (n : Int) := by omega
      by_cases hxy : x = y
      · subst hxy
        have d : (x != x) = false := bne_self_eq_false x
        have HT := Lib.hid ((take_same hx hy hT.out).2 rfl)
        clear hx hy hT
        go_wp2
        go_quiet (fail)
        go_wp2
        go_roundw
        case rel => exact ⟨k + 1, by omega, by go_num, HT, lbelow_drewN hB _⟩
        case measure => simp [intOf]; omega
      · have d : (x != y) = true := bne_iff_ne.2 hxy
        have HF := Lib.hid (decide_eq_false (ne_at hx hy hxy))
        clear hx hy hT hxy
        go_wp2
        go_quiet (fail)
        go_wp2
        go_ret
        exact ⟨lret_is HF.out.symm, lbelow_drewN hB _⟩
    · obtain rfl : k = n := by omega
      have HF : Hid (decide (l = r) = true) := by
        unfold Hid
        have h := hT.out
        rw [List.take_of_length_le (by have := HN.out; omega), List.take_of_length_le (by have := HE.out; omega)] at h
        exact decide_eq_true h
      go_wp2
      go_ret
      exact ⟨lret_is HF.out.symm, hB⟩

set_option maxRecDepth 100000 in
theorem Try.LEqual_far (ao ao' : Option Addr) (n n' cap cap' : Nat) (w : World) (h : n ≠ n') :
    Calls Try.prog 27 #[.slice ao n cap, .slice ao' n' cap'] w fun e w' => e = .returned (.bool false) ∧ w' = w := by
  have d : ((n : Int) != (n' : Int)) = true := bne_iff_ne.2 (by omega)
  go_enter Try.func27, Try.ntmps27
  go_wp2
  go_ret
  exact ⟨rfl, rfl⟩
set_option maxRecDepth 100000 in
theorem Try.LEqual_nil (ao ao' : Option Addr) (cap cap' : Nat) (w : World) :
    Calls Try.prog 27 #[.slice ao 0 cap, .slice ao' 0 cap'] w fun e w' => e = .returned (.bool true) ∧ w' = w := by
  go_enter Try.func27, Try.ntmps27
  go_wp2
  go_loop [13] (fun i => i = .int .i64 0) (fun _ => 0)
  case atStart => rfl
  case round =>
    obtain rfl := hrel
    go_wp2
    go_ret
    exact ⟨rfl, rfl⟩
theorem Try.LEqual_calls (v u : Value) (l r : List Int) (w : World) (hl : l.length ≤ 2000000) (hv : HasInts w v l) (hu : HasInts w u r) :
    Calls Try.prog 27 #[v, u] w fun e w' => e = .returned (.bool (decide (l = r))) ∧ Below w.heap.size w w' := by
  by_cases he : l.length = r.length
  · rcases hv with ⟨rfl, ao, cap, rfl⟩ | ⟨b, off, cap, rfl, _, _, hv⟩
    · have hr : r = [] := List.eq_nil_of_length_eq_zero (by simpa using he.symm)
      subst hr
      obtain ⟨ao', cap', rfl⟩ := hu.len
      exact (Try.LEqual_nil ao ao' cap cap' w).mono fun e w' ⟨h1, h2⟩ => ⟨by rw [h1]; rfl, h2 ▸ Below.refl _ _⟩
    · rcases hu with ⟨rfl, ao', cap', rfl⟩ | ⟨b', off', cap', rfl, _, _, hu⟩
      · have hr : l = [] := List.eq_nil_of_length_eq_zero (by simpa using he)
        subst hr
        exact (Try.LEqual_nil _ ao' cap cap' w).mono fun e w' ⟨h1, h2⟩ => ⟨by rw [h1]; rfl, h2 ▸ Below.refl _ _⟩
      · exact Try.LEqual_some b off cap b' off' cap' l r w hl he hv hu
  · obtain ⟨ao, cap, rfl⟩ := hv.len
    obtain ⟨ao', cap', rfl⟩ := hu.len
    exact (Try.LEqual_far ao ao' _ _ cap cap' w he).mono fun e w' ⟨h1, h2⟩ => ⟨by rw [h1, decide_eq_false (fun e => he (by rw [e]))], h2 ▸ Below.refl _ _⟩
#print axioms Try.LEqual_calls
end Go.Proofs
