/- The law package's bound on lists of lists. Condition: a slice of slices that came in. -/
import Derived.Test.YtgapefkoemofcaaDoorAll
namespace Go.Dg
/-- At most 20 lists, of at most 60 each, of at most 200 together. -/
def fitB (ll : List (List Mk)) : Bool := decide (ll.length ≤ 20) && ll.all (fun l => decide (l.length ≤ 60)) && decide ((ll.map List.length).sum ≤ 200)
theorem fitB_iff {ll : List (List Mk)} : fitB ll = true ↔ ll.length ≤ 20 ∧ (∀ l ∈ ll, l.length ≤ 60) ∧ (ll.map List.length).sum ≤ 200 := by
  unfold fitB
  rw [Bool.and_eq_true, Bool.and_eq_true, decide_eq_true_iff, decide_eq_true_iff, List.all_eq_true]
  constructor
  · rintro ⟨⟨h1, h2⟩, h3⟩
    exact ⟨h1, fun l hl => by simpa using h2 l hl, h3⟩
  · rintro ⟨h1, h2, h3⟩
    exact ⟨⟨h1, fun l hl => by simpa using h2 l hl⟩, h3⟩
theorem fitB_no {ll : List (List Mk)} (h : ¬ (ll.length ≤ 20 ∧ (∀ l ∈ ll, l.length ≤ 60) ∧ (ll.map List.length).sum ≤ 200)) : fitB ll = false := by
  rw [← Bool.not_eq_true, fitB_iff]; exact h
def sumTo (ll : List (List Mk)) (k : Nat) : Nat := ((ll.take k).map List.length).sum
theorem sumTo_step {ll : List (List Mk)} {k : Nat} {l : List Mk} (h : ll[k]? = some l) : sumTo ll (k + 1) = sumTo ll k + l.length := by
  unfold sumTo; rw [take_get h]; simp
end Go.Dg
namespace Go.Proofs
open Go.RowKit Go.Dg
attribute [local go_sem] Oper.semAt_some
attribute [local go_sem ↓] Go.wp_at_zero Go.wp_at_succ
theorem HasDiags.len {W : World} {v : Value} {l : List Mk} (h : HasDiags W v l) : ∃ ao cap, v = .slice ao l.length cap := by
  rcases h with ⟨rfl, ao, cap, rfl⟩ | ⟨b, off, cap, rfl, _⟩
  · exact ⟨ao, cap, rfl⟩
  · exact ⟨_, cap, rfl⟩
theorem HasDiags.maxLen {W : World} {v : Value} {l : List Mk} (h : HasDiags W v l) : l.length ≤ maxLen := by
  rcases h with ⟨rfl, _⟩ | ⟨b, off, cap, rfl, h1, h2, _⟩
  · simp
  · exact Nat.le_trans h1 h2
set_option maxRecDepth 100000 in
set_option maxHeartbeats 2000000 in
theorem Tryd.long_any (v : Value) (ll : List (List Mk)) (w : World) (hv : HasLists w v ll) :
    Calls Tryd.prog 8 #[v] w fun e w' => e = .returned (.bool (!fitB ll)) ∧ w = w' := by
  obtain ⟨F, hF⟩ : ∃ F, F = !fitB ll := ⟨_, rfl⟩
  rw [← hF]
  have HF := Lib.hid hF
  clear hF
  rcases hv with ⟨rfl, ao, cap, rfl⟩ | ⟨b, off, cap, rfl, hlc, hcm, hd⟩
  · go_enter Tryd.func8, Tryd.ntmps8
    go_wp2
    go_loop [3, 4] (fun n i => n = .int .i64 0 ∧ i = .int .i64 0) (fun _ _ => 0)
    case atStart => exact ⟨rfl, rfl⟩
    case round =>
      obtain ⟨rfl, rfl⟩ := hrel
      go_wp2
      go_ret
      exact ⟨by rw [HF.out]; rfl, rfl⟩
  · have HD := Lib.hid hd
    have hbl := hd.1
    unfold maxLen at hcm
    clear hd
    go_enter Tryd.func8, Tryd.ntmps8
    go_wp2
    go_loop [3, 4] (fun n i => ∃ k : Nat, k ≤ 30 ∧ k ≤ ll.length ∧ i = .int .i64 (k : Int) ∧ n = .int .i64 (sumTo ll k : Nat) ∧ sumTo ll k ≤ k * 60 ∧ Hid (∀ j l, j < k → ll[j]? = some l → l.length ≤ 60)) (fun _ i => ll.length - (intOf i).toNat)
    case atStart => exact ⟨0, by omega, Nat.zero_le _, rfl, rfl, by simp [sumTo], fun j l h => by omega⟩
    case round =>
      obtain ⟨k, hk30, hk, rfl, rfl, hn, HA⟩ := hrel
      by_cases hlt : k < ll.length
      · by_cases h30 : k < 30
        · obtain ⟨l, hp⟩ : ∃ l, ll[k]? = some l := ⟨_, List.getElem?_eq_getElem hlt⟩
          obtain ⟨u, x0, hu⟩ := HD.out.2 k l hp
          obtain ⟨ao, cap', rfl⟩ := hu.len
          have hml := hu.maxLen
          unfold maxLen at hml
          have HP := Lib.hid hp
          have HT := Lib.hid (sumTo_step hp)
          generalize sumTo ll k = n at *
          clear hp hu
          by_cases h60 : l.length ≤ 60
          · have h60' : ¬ (60 : Int) < (l.length : Int) := by omega
            have HA2 : Hid (∀ j l', j < k + 1 → ll[j]? = some l' → l'.length ≤ 60) := fun j l' hj hl' => by
              by_cases e : j = k
              · subst e; rw [HP.out] at hl'; cases hl'; exact h60
              · exact HA.out j l' (by omega) hl'
            clear HA
            go_wp2
            go_round
            case rel => exact ⟨k + 1, by omega, by omega, by go_num, by rw [HT.out]; go_num, by rw [HT.out]; omega, HA2⟩
            case measure => simp [intOf]; omega
          · have h60' : (60 : Int) < (l.length : Int) := by omega
            have HX : Hid (fitB ll = false) := fitB_no fun h => h60 (h.2.1 l (List.mem_of_getElem? HP.out))
            clear HA HT
            go_wp2
            go_ret
            exact ⟨by rw [HF.out, HX.out]; rfl, rfl⟩
        · have hk3 : k = 30 := by omega
          have h20 : (20 : Int) < (ll.length : Int) := by omega
          have hlt' : (k : Int) < (ll.length : Int) := by omega
          have h30' : ¬ (k : Int) < 30 := by omega
          have HX : Hid (fitB ll = false) := fitB_no fun h => by omega
          generalize sumTo ll k = n at *
          clear hk3 HA
          go_wp2
          go_ret
          exact ⟨by rw [HF.out, HX.out]; rfl, rfl⟩
      · have hkl : k = ll.length := by omega
        have hlt' : ¬ (k : Int) < (ll.length : Int) := by omega
        by_cases h20 : ll.length ≤ 20
        · have h20' : ¬ (20 : Int) < (ll.length : Int) := by omega
          have hs : sumTo ll k = (ll.map List.length).sum := by unfold sumTo; rw [hkl, List.take_length]
          by_cases h200 : sumTo ll k ≤ 200
          · have HX : Hid (fitB ll = true) := fitB_iff.2 ⟨h20, fun l hl => by
              obtain ⟨j, hj, he⟩ := List.getElem_of_mem hl
              exact HA.out j l (by omega) (by rw [List.getElem?_eq_getElem hj, he]), by rw [← hs]; exact h200⟩
            generalize sumTo ll k = n at *
            have h200' : ¬ (200 : Int) < (n : Int) := by omega
            clear hkl HA hs
            go_wp2
            go_ret
            exact ⟨by rw [HF.out, HX.out]; rfl, rfl⟩
          · have HX : Hid (fitB ll = false) := fitB_no fun h => h200 (by rw [hs]; exact h.2.2)
            generalize sumTo ll k = n at *
            have h200' : (200 : Int) < (n : Int) := by omega
            clear hkl HA hs
            go_wp2
            go_ret
            exact ⟨by rw [HF.out, HX.out]; rfl, rfl⟩
        · have h20' : (20 : Int) < (ll.length : Int) := by omega
          have HX : Hid (fitB ll = false) := fitB_no fun h => h20 h.1
          generalize sumTo ll k = n at *
          clear hkl HA
          go_wp2
          go_ret
          exact ⟨by rw [HF.out, HX.out]; rfl, rfl⟩
#print axioms Tryd.long_any
end Go.Proofs
