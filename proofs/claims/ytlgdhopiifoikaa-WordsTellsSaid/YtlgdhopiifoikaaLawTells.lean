/- The laws WordsTells and WordsUpper of this program, as contracts. No conditions. -/
import Derived.Test.YtlgdhopiifoikaaShown
namespace Go.Wds
theorem up_up (c : UInt8) : up (up c) = up c := by
  by_cases h : 97 ≤ c.toNat ∧ c.toNat ≤ 122
  · refine up_keep fun h2 => ?_
    have := up_small h
    omega
  · rw [up_keep h, up_keep h]
theorem upS_upS (s : ByteArray) : upS (upS s) = upS s := by
  unfold upS
  simp only [List.map_map]
  congr 2
  apply List.map_congr_left
  intro x _
  exact up_up x
theorem upS_size (s : ByteArray) : (upS s).size = s.size := by
  show (List.toArray _).size = _
  simp
theorem upS_list (s : ByteArray) : (upS s).data.toList = s.data.toList.map up := by simp [upS]
theorem name_up (c : UInt8) : ofB nameP (up c) = ofB nameP c := by
  unfold ofB
  rw [nameP_eq, nameP_eq]
  by_cases h : 97 ≤ c.toNat ∧ c.toNat ≤ 122
  · have := up_small h
    rw [decide_eq_decide]; omega
  · rw [up_keep h]
theorem plain_up (c : UInt8) : ofB (Go.Proofs.between 32 126) (up c) = ofB (Go.Proofs.between 32 126) c := by
  unfold ofB
  rw [plainP_eq, plainP_eq]
  by_cases h : 97 ≤ c.toNat ∧ c.toNat ≤ 122
  · have := up_small h
    rw [decide_eq_decide]; omega
  · rw [up_keep h]
theorem allL_up {q : UInt8 → Bool} (h : ∀ c, q (up c) = q c) (l : List UInt8) : allL q (l.map up) = allL q l := by
  unfold allL
  rw [List.all_map]
  congr 1
  funext c
  exact h c
theorem nameL_up (s : ByteArray) : nameL (upS s).data.toList = nameL s.data.toList := by
  unfold nameL fitL
  rw [upS_list, List.length_map, allL_up name_up]
theorem plainL_up (s : ByteArray) : plainL (upS s).data.toList = plainL s.data.toList := by
  unfold plainL
  rw [upS_list, allL_up plain_up]
theorem name_plain {l : List UInt8} (h : nameL l = true) : plainL l = true := by
  unfold nameL fitL at h
  rw [Bool.and_eq_true] at h
  have h1 := List.all_eq_true.1 (show l.all (ofB nameP) = true from h.2)
  show l.all _ = true
  rw [List.all_eq_true]
  intro c hc
  have h2 := h1 c hc
  unfold ofB at h2 ⊢
  rw [nameP_eq, decide_eq_true_iff] at h2
  rw [plainP_eq, decide_eq_true_iff]
  omega
end Go.Wds
namespace Go.Proofs
open Go.RowKit Go.Shelf Go.Wds

theorem bl2 {a b c : World} (h : Below a.heap.size a b) (k : Below b.heap.size b c) : Below a.heap.size a c := h.trans (k.mono h.size)
theorem same2 {b c : World} (k : c = b) : Below b.heap.size b c := by subst k; exact Below.refl _ _

set_option maxRecDepth 100000 in
set_option maxHeartbeats 1000000 in
theorem Try.WordsTells_calls (s : ByteArray) (w : World) (hs : s.size ≤ maxLen) :
    Calls Try.prog 5 #[.string s] w fun e w' => e = .returned (.bool true) ∧ Below w.heap.size w w' := by
  unfold maxLen at hs
  by_cases hbig : 1000 < s.size
  · have hd : decide ((1000 : Int) < (s.size : Int)) = true := decide_eq_true (by omega)
    clear hbig
    go_enter Try.func5, Try.ntmps5
    go_wp2_with (go_at_call 10; refine (Try.shown_calls _).mono ?_; rintro e w1 ⟨rfl, hb1⟩)
    go_ret
    exact ⟨rfl, hb1⟩
  · have hd : decide ((1000 : Int) < (s.size : Int)) = false := decide_eq_false (by omega)
    have hs2 : s.size ≤ 2000000 := by omega
    have C1 := Lib.hid fun W => Try.Upper_calls s W hs2
    have C2 := Lib.hid fun W => Try.rUpper_calls s W hs2
    have C3 := Lib.hid fun W => Try.Name_calls s W hs2
    have C4 := Lib.hid fun W => (Try.rName_calls s W hs2).mono (R' := fun e w' => e = .returned (.bool (nameL s.data.toList)) ∧ Below W.heap.size W w') fun e w' ⟨h1, h2⟩ => ⟨h1, same2 h2⟩
    have C5 := Lib.hid fun W => Try.Plain_calls s W hs2
    have C6 := Lib.hid fun W => (Try.rPlain_calls s W hs2).mono (R' := fun e w' => e = .returned (.bool (plainL s.data.toList)) ∧ Below W.heap.size W w') fun e w' ⟨h1, h2⟩ => ⟨h1, same2 h2⟩
    obtain ⟨X, hX⟩ : ∃ X, upS s = X := ⟨_, rfl⟩
    rw [hX] at C1 C2
    generalize nameL s.data.toList = n at C3 C4
    generalize plainL s.data.toList = p at C5 C6
    clear hbig hs hX
    go_enter Try.func5, Try.ntmps5
    go_wp2_with (go_at_call 10; refine (Try.shown_calls _).mono ?_; rintro e w1 ⟨rfl, hb1⟩)
    refine (C1.out _).mono ?_
    rintro e w2 ⟨rfl, hb2⟩
    go_wp2_with (fail)
    refine (C2.out _).mono ?_
    rintro e w3 ⟨rfl, hb3⟩
    go_wp2_with (fail)
    refine (C3.out _).mono ?_
    rintro e w4 ⟨rfl, hb4⟩
    go_wp2_with (fail)
    refine (C4.out _).mono ?_
    rintro e w5 ⟨rfl, hb5⟩
    go_wp2_with (fail)
    refine (C5.out _).mono ?_
    rintro e w6 ⟨rfl, hb6⟩
    go_wp2_with (fail)
    refine (C6.out _).mono ?_
    rintro e w7 ⟨rfl, hb7⟩
    go_wp2
    go_ret
    exact ⟨rfl, bl2 hb1 (bl2 hb2 (bl2 hb3 (bl2 hb4 (bl2 hb5 (bl2 hb6 hb7)))))⟩

set_option maxRecDepth 100000 in
set_option maxHeartbeats 1000000 in
theorem Try.WordsUpper_calls (s : ByteArray) (w : World) (hs : s.size ≤ maxLen) :
    Calls Try.prog 9 #[.string s] w fun e w' => e = .returned (.bool true) ∧ Below w.heap.size w w' := by
  unfold maxLen at hs
  by_cases hbig : 1000 < s.size
  · have hd : decide ((1000 : Int) < (s.size : Int)) = true := decide_eq_true (by omega)
    clear hbig
    go_enter Try.func9, Try.ntmps9
    go_wp2_with (go_at_call 10; refine (Try.shown_calls _).mono ?_; rintro e w1 ⟨rfl, hb1⟩)
    go_ret
    exact ⟨rfl, hb1⟩
  · have hd : decide ((1000 : Int) < (s.size : Int)) = false := decide_eq_false (by omega)
    have hs2 : s.size ≤ 2000000 := by omega
    have hxs : (upS s).size = s.size := upS_size s
    have C1 := Lib.hid fun W => Try.Upper_calls s W hs2
    have C2 := Lib.hid fun W => Try.Upper_calls (upS s) W (by rw [hxs]; exact hs2)
    have C3 := Lib.hid fun W => Try.Name_calls (upS s) W (by rw [hxs]; exact hs2)
    have C4 := Lib.hid fun W => Try.Name_calls s W hs2
    have C5 := Lib.hid fun W => Try.Plain_calls (upS s) W (by rw [hxs]; exact hs2)
    have C6 := Lib.hid fun W => Try.Plain_calls s W hs2
    rw [upS_upS] at C2
    rw [nameL_up] at C3
    rw [plainL_up] at C5
    have hnp : nameL s.data.toList = true → plainL s.data.toList = true := name_plain
    obtain ⟨X, hX⟩ : ∃ X, upS s = X := ⟨_, rfl⟩
    rw [hX] at C1 C2 C3 C5 hxs
    obtain ⟨n, hn⟩ : ∃ n, nameL s.data.toList = n := ⟨_, rfl⟩
    obtain ⟨p, hp⟩ : ∃ p, plainL s.data.toList = p := ⟨_, rfl⟩
    rw [hn] at C3 C4 hnp
    rw [hp] at C5 C6 hnp
    have d1 : (X.size == s.size) = true := by rw [beq_iff_eq]; exact hxs
    have d2 : ((X.size : Int) == (s.size : Int)) = true := by rw [beq_iff_eq]; omega
    clear hbig hs hX hxs hn hp
    cases n with
    | false =>
      clear hnp
      go_enter Try.func9, Try.ntmps9
      go_wp2_with (go_at_call 10; refine (Try.shown_calls _).mono ?_; rintro e w1 ⟨rfl, hb1⟩)
      refine (C1.out _).mono ?_
      rintro e w2 ⟨rfl, hb2⟩
      go_wp2_with (fail)
      refine (C2.out _).mono ?_
      rintro e w3 ⟨rfl, hb3⟩
      go_wp2_with (fail)
      refine (C3.out _).mono ?_
      rintro e w4 ⟨rfl, hb4⟩
      go_wp2_with (fail)
      refine (C4.out _).mono ?_
      rintro e w5 ⟨rfl, hb5⟩
      go_wp2_with (fail)
      refine (C5.out _).mono ?_
      rintro e w6 ⟨rfl, hb6⟩
      go_wp2_with (fail)
      refine (C6.out _).mono ?_
      rintro e w7 ⟨rfl, hb7⟩
      go_wp2_with (fail)
      refine (C4.out _).mono ?_
      rintro e w8 ⟨rfl, hb8⟩
      go_wp2
      go_ret
      exact ⟨rfl, bl2 hb1 (bl2 hb2 (bl2 hb3 (bl2 hb4 (bl2 hb5 (bl2 hb6 (bl2 hb7 hb8))))))⟩
    | true =>
      obtain rfl : p = true := hnp rfl
      clear hnp
      go_enter Try.func9, Try.ntmps9
      go_wp2_with (go_at_call 10; refine (Try.shown_calls _).mono ?_; rintro e w1 ⟨rfl, hb1⟩)
      refine (C1.out _).mono ?_
      rintro e w2 ⟨rfl, hb2⟩
      go_wp2_with (fail)
      refine (C2.out _).mono ?_
      rintro e w3 ⟨rfl, hb3⟩
      go_wp2_with (fail)
      refine (C3.out _).mono ?_
      rintro e w4 ⟨rfl, hb4⟩
      go_wp2_with (fail)
      refine (C4.out _).mono ?_
      rintro e w5 ⟨rfl, hb5⟩
      go_wp2_with (fail)
      refine (C5.out _).mono ?_
      rintro e w6 ⟨rfl, hb6⟩
      go_wp2_with (fail)
      refine (C6.out _).mono ?_
      rintro e w7 ⟨rfl, hb7⟩
      go_wp2_with (fail)
      refine (C4.out _).mono ?_
      rintro e w8 ⟨rfl, hb8⟩
      go_wp2_with (fail)
      refine (C6.out _).mono ?_
      rintro e w9 ⟨rfl, hb9⟩
      go_wp2
      go_ret
      exact ⟨rfl, bl2 hb1 (bl2 hb2 (bl2 hb3 (bl2 hb4 (bl2 hb5 (bl2 hb6 (bl2 hb7 (bl2 hb8 hb9)))))))⟩
#print axioms Try.WordsTells_calls
#print axioms Try.WordsUpper_calls
end Go.Proofs
