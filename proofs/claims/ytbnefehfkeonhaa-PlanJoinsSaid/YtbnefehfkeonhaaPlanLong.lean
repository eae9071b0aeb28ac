/- Layer 9's law package: long, its. Conditions: routes that a slice can hold. -/
import Derived.Test.YtbnefehfkeonhaaPlanMem
namespace Go.Proofs
open Go.RowKit Go.Plans
attribute [local go_sem] Oper.semAt_some
/-- Is a plan too much to look at? -/
def longR (rr : Rts) : Bool := decide (410 < rr.length) || !(rr.all fun l => decide (l.length ≤ 2100)) || decide (2100 < many rr)
theorem long_no {rr : Rts} (h : longR rr = false) : rr.length ≤ 410 ∧ (∀ l ∈ rr, l.length ≤ 2100) ∧ many rr ≤ 2100 := by
  unfold longR at h
  simp only [Bool.or_eq_false_iff, decide_eq_false_iff_not, Bool.not_eq_false', List.all_eq_true, decide_eq_true_eq] at h
  exact ⟨by omega, h.1.2, by omega⟩
theorem long_big {rr : Rts} {l : List Int} {k : Nat} (h : rr[k]? = some l) (hl : 2100 < l.length) : longR rr = true := by
  have : (rr.all fun l => decide (l.length ≤ 2100)) = false := List.all_eq_false.2 ⟨l, List.mem_of_getElem? h, by simp; omega⟩
  unfold longR; rw [this]; simp
theorem long_len {rr : Rts} (h : 410 < rr.length) : longR rr = true := by unfold longR; rw [decide_eq_true h]; rfl
theorem long_end {rr : Rts} (h : ¬ 410 < rr.length) (ha : ∀ l ∈ rr, l.length ≤ 2100) : longR rr = decide (2100 < many rr) := by
  have : (rr.all fun l => decide (l.length ≤ 2100)) = true := List.all_eq_true.2 fun l hl => decide_eq_true (ha l hl)
  unfold longR; rw [decide_eq_false h, this]; rfl
def allTo (rr : Rts) (k : Nat) : Prop := ∀ l ∈ rr.take k, l.length ≤ 2100
theorem many_bnd (c : Nat) : ∀ (q : Rts), (∀ l ∈ q, l.length ≤ c) → many q ≤ q.length * c
  | [], _ => by simp [many]
  | a :: q, h => by
    have h1 := h a (List.mem_cons_self ..)
    have h2 := many_bnd c q (fun l hl => h l (List.mem_cons_of_mem _ hl))
    rw [many_cons, List.length_cons, Nat.succ_mul]; omega
theorem many_bound {rr : Rts} {k : Nat} (h : allTo rr k) : many (rr.take k) ≤ k * 2100 := by
  have h1 := many_bnd 2100 _ h
  rw [List.length_take] at h1
  exact Nat.le_trans h1 (Nat.mul_le_mul_right 2100 (Nat.min_le_left k rr.length))
set_option maxRecDepth 100000 in
theorem Try.its_calls (v : Value) (rr : Rts) (w : World) (hv : HasRts w v rr) :
    Calls Try.prog 12 #[planV v] w fun e w' => e = .returned (planV v) ∧ Below w.heap.size w w' := by
  obtain ⟨ao, cap, rfl⟩ := hv.len
  obtain ⟨n, hn⟩ : ∃ n, rr.length = n := ⟨_, rfl⟩
  rw [hn]
  have hb0 := ((Below.refl _ w).alloc (Nat.le_refl _) (.cells #[.slice ao n cap] 24)).alloc (by simp) (.cells #[.slice ao n cap] 30)
  clear hv hn
  unfold planV
  go_enter Try.func12, Try.ntmps12
  go_wp2
  refine bodyPost_ret (v := .agg #[.slice ao n cap]) (by simp [results, Try.results12, go_sem]) rfl ?_
  exact ⟨rfl, hb0⟩
set_option maxRecDepth 100000 in
set_option maxHeartbeats 2000000 in
theorem Try.long_calls (v : Value) (rr : Rts) (w : World) (hv : HasRts w v rr) :
    Calls Try.prog 8 #[planV v] w fun e w' => e = .returned (.bool (longR rr)) ∧ Below w.heap.size w w' := by
  have HV := Lib.hid hv
  obtain ⟨ao, cap, rfl⟩ := hv.len
  have hmx : rr.length ≤ 9223372036854775807 := by
    rcases hv with ⟨rfl, _⟩ | ⟨_, _, _, _, h2, h3, _⟩
    · simp
    · unfold maxLen at h3; omega
  obtain ⟨n, hn⟩ : ∃ n, rr.length = n := ⟨_, rfl⟩
  rw [hn] at HV hmx ⊢
  have HN := Lib.hid hn
  have hb0 := (Below.refl _ w).alloc (Nat.le_refl _) (.cells #[.slice ao n cap] 24)
  have B0 := BoxAt.new w (.slice ao n cap) 24
  clear hv hn
  unfold planV
  go_enter Try.func8, Try.ntmps8
  go_wp2
  go_loopw [3, 4] (fun m i wr => ∃ k : Nat, k ≤ n ∧ k ≤ 420 ∧ m = .int .i64 (many (rr.take k) : Int) ∧ i = .int .i64 (k : Int) ∧ allTo rr k ∧ BoxAt wr w.heap.size (.slice ao n cap) ∧ Below w.heap.size w wr) (fun _ i _ => 420 - (intOf i).toNat)
  case atStart => exact ⟨0, Nat.zero_le _, Nat.zero_le _, rfl, rfl, by unfold allTo; simp, B0, hb0⟩
  case round =>
    obtain ⟨k, hk, hk2, rfl, rfl, hA, hB, hW⟩ := hrel
    have HA := Lib.hid hA
    have HB := Lib.hid hB
    have HW := Lib.hid hW
    have b0 := hB.1
    have b1 := hB.2
    clear B0 hb0 hB hW hA
    by_cases hlt : k < n
    · have hki : (k : Int) < (n : Int) := by omega
      by_cases h420 : k < 420
      · have hk4 : (k : Int) < 420 := by omega
        obtain ⟨l, hp⟩ : ∃ l, rr[k]? = some l := ⟨_, List.getElem?_eq_getElem (by have := HN.out; omega)⟩
        obtain ⟨b, off, cap', u, hv, hbB, hbw, hc, hu⟩ := HV.out.get hp (Nat.le_refl _) HW.out
        have hbd := many_bound HA.out
        have hmt := many_take hp
        obtain ⟨ao2, cap2, rfl⟩ := hu.len
        injection hv with h1 h2 h3
        subst h1
        obtain ⟨M, hMM⟩ : ∃ M, many (rr.take k) = M := ⟨_, rfl⟩
        rw [hMM] at hmt hbd ⊢
        by_cases hbig : 2100 < l.length
        · have hL := Lib.hid (long_big hp hbig)
          obtain ⟨L, hLe⟩ : ∃ L, l.length = L := ⟨_, rfl⟩
          rw [hLe] at hbig hc
          have hbi : (2100 : Int) < (L : Int) := by omega
          clear hp hu h2 h3 hmt hMM hLe
          go_wp2
          go_ret
          exact ⟨by rw [hL.out]; rfl, HW.out⟩
        · have hall : Hid (allTo rr (k + 1)) := by
            unfold Hid allTo
            rw [List.take_add_one, hp]
            intro x hx
            rcases List.mem_append.1 hx with h | h
            · exact HA.out x h
            · rw [show x = l by simpa using h]; omega
          have HMT := Lib.hid hmt
          obtain ⟨L, hLe⟩ : ∃ L, l.length = L := ⟨_, rfl⟩
          rw [hLe] at hbig hc HMT
          have hbi : ¬ (2100 : Int) < (L : Int) := by omega
          have hbi2 : (L : Int) ≤ 2100 := by omega
          have hM2 : M ≤ 900000 := by omega
          clear hp hu h2 h3 hmt hMM hLe
          go_wp2
          exact ⟨⟨k + 1, by omega, by omega, by rw [HMT.out]; go_num, by go_num, hall.out, HB.out, HW.out⟩, by simp [intOf]; omega⟩
      · obtain rfl : k = 420 := by omega
        have hL := Lib.hid (long_len (rr := rr) (by have := HN.out; omega))
        have h410 : (410 : Int) < (n : Int) := by omega
        obtain ⟨M, hMM⟩ : ∃ M, many (rr.take 420) = M := ⟨_, rfl⟩
        rw [hMM]
        clear hMM
        go_wp2
        go_ret
        exact ⟨by rw [hL.out]; rfl, HW.out⟩
    · obtain rfl : k = n := by omega
      have hT : rr.take k = rr := List.take_of_length_le (by have := HN.out; omega)
      have hAll : ∀ l ∈ rr, l.length ≤ 2100 := by have h := HA.out; unfold allTo at h; rwa [hT] at h
      have hbd := many_bound HA.out
      rw [hT] at hbd ⊢
      by_cases h410 : 410 < k
      · have hL := Lib.hid (long_len (rr := rr) (by have := HN.out; omega))
        have h4i : (410 : Int) < (k : Int) := by omega
        generalize many rr = M at *
        clear hT hAll
        go_wp2
        go_ret
        exact ⟨by rw [hL.out]; rfl, HW.out⟩
      · have hL := Lib.hid (long_end (by have := HN.out; omega) hAll)
        have h4i : ¬ (410 : Int) < (k : Int) := by omega
        generalize many rr = M at *
        clear hT hAll
        by_cases hM : 2100 < M
        · have hMi : (2100 : Int) < (M : Int) := by omega
          have hL2 : Hid (longR rr = true) := hL.out.trans (decide_eq_true hM)
          clear hL
          go_wp2
          go_ret
          exact ⟨by rw [hL2.out]; rfl, HW.out⟩
        · have hMi : ¬ (2100 : Int) < (M : Int) := by omega
          have hL2 : Hid (longR rr = false) := hL.out.trans (decide_eq_false hM)
          clear hL
          go_wp2
          go_ret
          exact ⟨by rw [hL2.out]; rfl, HW.out⟩
#print axioms Try.long_calls
end Go.Proofs
