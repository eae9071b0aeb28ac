/- slices.Clone at nodes and at numbers, and allTens. Conditions: lists of at most a million. -/
import Derived.Test.YtogpnkahgkidpaaCanonSameP
namespace Go.Proofs
open Go.RowKit Go.Shelf Go.Canon
attribute [local go_sem] Oper.semAt_some

theorem Try.info46 : (Try.prog.info? 46).map (fun i => (i.zero, i.size, i.bytes)) = some (some (.agg #[.int .i64 0, .int .i64 0, .int .i64 0, .int .i64 0, .int .i64 0, .int .i64 0, .int .i64 0]), 7, 56) := by kernel_rfl
theorem owns_nil (W : World) (base : Nat) (e : TypeId) (size : Nat) : W.ownsRow base e size (.slice none 0 0) 0 [] := ⟨by simp, .inl ⟨rfl, rfl⟩⟩
set_option maxRecDepth 100000 in
set_option maxHeartbeats 1000000 in
theorem Try.cloneNodes_calls (v : Value) (l : List Nd) (w : World) (hv : HasNodes w v l) (h1 : l.length ≤ 1000000) :
    Calls Try.prog 36 #[v] w fun e w' => ∃ v', e = .returned v' ∧ w'.ownsRow w.heap.size 46 7 v' l.length (l.flatMap ndC) ∧ Below w.heap.size w w' := by
  obtain ⟨i0, hi, hz0, hz1, hz2⟩ := info_parts Try.info46
  have HI := Lib.hid hi
  clear hi
  have q22 : ∀ (w : World) (a : Option Addr) (n c n' c' : Nat), (binOp .eql 22 (.slice a n c) (.slice none n' c')).run Try.prog w = .ok (.bool a.isNone) w := fun w a n c n' c' => Lib.run_eql_slice_nil w _ _ a n c n' c' Try.underlying22
  rcases hv with ⟨rfl, ao, c, rfl⟩ | ⟨b, off, c, rfl, hlc, hcm, hd⟩
  · cases ao with
    | none =>
      go_enter Try.func36, Try.ntmps36
      go_wp2
      go_ret
      exact ⟨_, rfl, owns_nil _ _ _ _, Below.refl _ _⟩
    | some ad =>
      go_enter Try.func36, Try.ntmps36
      go_wp2
      go_ret
      exact ⟨_, rfl, cowns_empty _ _ _, below_box _ _⟩
  · have hml : 0 + l.length ≤ maxLen := by unfold maxLen; omega
    have hml2 : (0 + l.length) * 56 ≤ 140737488355328 := by omega
    have HW : Hid (∀ W, Below w.heap.size w W → ∀ (j : Nat) (u : Value), (l.flatMap ndC)[j]? = some u → W.cell? ((⟨b, off, none⟩ : Addr).add j) = some u) := fun W hW => nodes_news (hd.below hW hd.1)
    have HF : Hid ((l.flatMap ndC).length = l.length * 7) := flat_len (f := ndC) (s := 7) (fun _ => rfl) _
    clear hd
    generalize l.length = L at *
    go_enter Try.func36, Try.ntmps36
    go_wp2_with (at_builtin; refine wpList_append_own _ rfl _ _ 22 rfl w.heap.size 46 i0 (.agg #[.int .i64 0, .int .i64 0, .int .i64 0, .int .i64 0, .int .i64 0, .int .i64 0, .int .i64 0]) 7 56 Try.underlying22 HI.out hz0 hz1 hz2 rfl (by decide) _ 0 [] rfl (cowns_empty w 46 7) ⟨b, off, none⟩ L c (l.flatMap ndC) rfl HF.out (HW.out _ (below_box _ _)) (nd_one _) hml hml2 (below_box _ _).size ?_; intro v' w1 hown' hgrow _; have hB := Lib.hid ((below_box w _).grown hgrow (below_box _ _).size (fun k e => ((cowns_empty w 46 7).lt k e).1)); have hR := Lib.hid hown'; obtain ⟨ao, vc, rfl⟩ := owns_dat hown')
    go_ret
    exact ⟨_, rfl, by have := hR.out; rwa [Nat.zero_add] at this, hB.out⟩
theorem Try.cloneInts_calls (v : Value) (l : List Int) (w : World) (hv : HasNums w v l) (h1 : l.length ≤ 1000000) :
    Calls Try.prog 37 #[v] w fun e w' => ∃ v', e = .returned v' ∧ w'.ownsRow w.heap.size 3 1 v' l.length (l.map fun y => .int .i64 y) ∧ Below w.heap.size w w' := by
  rcases hv with ⟨rfl, ao, c, rfl⟩ | ⟨b, off, c, rfl, hlc, hcm, hd⟩
  · cases ao with
    | none =>
      refine (Try.slices_Clone_int_nil 0 c w).mono ?_
      rintro e w' ⟨rfl, hw⟩
      obtain rfl : w = w' := hw.symm
      exact ⟨_, rfl, owns_nil _ _ _ _, Below.refl _ _⟩
    | some ad =>
      refine (Try.slices_Clone_int_zero ad c w).mono ?_
      rintro e w' ⟨v', rfl, h1, _, h2⟩
      exact ⟨_, rfl, h1, h2⟩
  · refine (Try.slices_Clone_int b off l.length c l w (Nat.le_refl _) (by omega) (nums_getD hd)).mono ?_
    rintro e w' ⟨v', rfl, h1, _, h2⟩
    rw [List.take_length] at h1
    exact ⟨_, rfl, h1, h2⟩
set_option maxRecDepth 100000 in
set_option maxHeartbeats 1000000 in
theorem Try.allTens_calls (v : Value) (l : List Nd) (w : World) (hv : HasNodes w v l) (h1 : l.length ≤ 1000000) :
    Calls Try.prog 38 #[v] w fun e w' => e = .returned (.bool (whole l)) ∧ Below w.heap.size w w' := by
  obtain ⟨an, cn, rfl, hx⟩ := hv.dat
  have HX := Lib.hid hx
  obtain ⟨n, hn⟩ : ∃ n, l.length = n := ⟨_, rfl⟩
  rw [hn] at h1 ⊢
  have HN := Lib.hid hn
  unfold whole
  clear hx hv hn
  go_enter Try.func38, Try.ntmps38
  go_wp2
  go_loopw [7] (fun i wr => ∃ k : Nat, k ≤ n ∧ i = .int .i64 (k : Int) ∧ Hid ((l.take k).all wholeNd = true) ∧ Below w.heap.size w wr) (fun i _ => n - (intOf i).toNat)
  case atStart => exact ⟨0, Nat.zero_le _, rfl, rfl, Below.refl _ _⟩
  case round =>
    obtain ⟨k, hk, rfl, hT, hB⟩ := hrel
    by_cases hlt : k < n
    · rcases HX.out with h0 | ⟨b, off, rfl, hd⟩
      · have := HN.out; rw [h0] at this; simp at this; omega
      obtain ⟨x, hx⟩ : ∃ x, l[k]? = some x := ⟨_, List.getElem?_eq_getElem (by have := HN.out; omega)⟩
      obtain ⟨x0, x1, x2, x3, x4, x5, x6⟩ := (hd.2 k x hx).below hB hd.1
      have hki : (k : Int) < (n : Int) := by omega
      have HA := Lib.hid (all_take hx hT.out)
      have HM := Lib.hid (List.mem_of_getElem? hx)
      clear hd hx hT
      cases hw : wholeNd x with
      | true =>
        have hw' := hw
        simp only [wholeNd, Bool.and_eq_true, decide_eq_true_eq] at hw'
        have kx : (x.x.tmod 10 != 0) = false := by simp [hw'.1]
        have ky : (x.y.tmod 10 != 0) = false := by simp [hw'.2]
        have HT : Hid ((l.take (k + 1)).all wholeNd = true) := HA.out.trans (by rw [hw]; rfl)
        clear hw hw'
        go_wp2
        go_roundw
        case rel => exact ⟨k + 1, by omega, by go_num, HT, hB.alloc hB.size _⟩
        case measure => simp [intOf]; omega
      | false =>
        have HF : Hid (l.all wholeNd = false) := by
          unfold Hid
          rw [List.all_eq_false]
          exact ⟨x, HM.out, by rw [hw]; simp⟩
        by_cases hx0 : x.x.tmod 10 = 0
        · have kx : (x.x.tmod 10 != 0) = false := by simp [hx0]
          have ky : (x.y.tmod 10 != 0) = true := by
            simp only [wholeNd, hx0, decide_true, Bool.true_and, decide_eq_false_iff_not] at hw
            exact bne_iff_ne.2 hw
          clear hw hx0
          go_wp2
          go_ret
          exact ⟨cret_is HF.out.symm, hB.alloc hB.size _⟩
        · have kx : (x.x.tmod 10 != 0) = true := bne_iff_ne.2 hx0
          clear hw hx0
          go_wp2
          go_ret
          exact ⟨cret_is HF.out.symm, hB.alloc hB.size _⟩
    · obtain rfl : k = n := by omega
      have HF : Hid (l.all wholeNd = true) := by
        have e := hT.out
        rwa [List.take_of_length_le (Nat.le_of_eq HN.out)] at e
      go_wp2
      go_ret
      exact ⟨cret_is HF.out.symm, hB⟩
end Go.Proofs
