/- words.Name and words.Plain of this program, and the document's own, as contracts. Conditions: a text of at most two million bytes. -/
import Derived.Test.YtogpnkahgkidpaaAll
namespace Go.Wds
open Go.Proofs
def sMarks : ByteArray := ⟨#[46, 95, 45]⟩
theorem low_marks : Low sMarks := by unfold Low; decide
theorem flat_between {a b : Nat} (hb : b < 128) : Flat (between a b) := fun r hr => by
  unfold between
  rw [show decide (r ≤ b) = false from decide_eq_false (by omega), show decide (128 ≤ b) = false from decide_eq_false (by omega)]; simp
theorem flat_has2 {s : ByteArray} (h : Low s) : Flat (has s) := fun r hr => by rw [has_high h hr, has_high h (Nat.le_refl _)]
theorem flat_any : ∀ {ps : List (Nat → Bool)}, (∀ p ∈ ps, Flat p) → Flat (anyOf ps)
  | [], _ => fun _ _ => rfl
  | p :: ps, h => fun r hr => by
    show (p r || anyOf ps r) = (p 128 || anyOf ps 128)
    rw [h p (by simp) r hr, flat_any (fun q hq => h q (by simp [hq])) r hr]
def nameP : Nat → Bool := anyOf [between 65 90, between 97 122, between 48 57, has sMarks]
theorem flat_name : Flat nameP := flat_any (by
  intro p hp
  simp only [List.mem_cons, List.not_mem_nil, or_false] at hp
  rcases hp with rfl | rfl | rfl | rfl
  · exact flat_between (by decide)
  · exact flat_between (by decide)
  · exact flat_between (by decide)
  · exact flat_has2 low_marks)
theorem nameP_eq (n : Nat) : nameP n = decide ((65 ≤ n ∧ n ≤ 90) ∨ (97 ≤ n ∧ n ≤ 122) ∨ (48 ≤ n ∧ n ≤ 57) ∨ n = 46 ∨ n = 95 ∨ n = 45) := by
  show ((decide (65 ≤ n) && decide (n ≤ 90)) || ((decide (97 ≤ n) && decide (n ≤ 122)) || ((decide (48 ≤ n) && decide (n ≤ 57)) || (((46 == n) || ((95 == n) || ((45 == n) || false))) || false)))) = _
  rw [Bool.eq_iff_iff]
  simp only [Bool.or_eq_true, Bool.and_eq_true, decide_eq_true_iff, beq_iff_eq, Bool.false_eq_true, or_false]
  omega
/-- May a text be a name? -/
def nameL (l : List UInt8) : Bool := fitL (ofB nameP) l
/-- Are all bytes of a text 32 to 126? -/
def plainL (l : List UInt8) : Bool := allL (ofB (between 32 126)) l
theorem plainP_eq (n : Nat) : between 32 126 n = decide (32 ≤ n ∧ n ≤ 126) := by
  unfold between; rw [Bool.decide_and]
theorem allL_step {q : UInt8 → Bool} {l : List UInt8} {k : Nat} {c : UInt8} (hc : l[k]? = some c) : allL q (l.drop k) = (q c && allL q (l.drop (k + 1))) := by
  obtain ⟨hk, rfl⟩ := List.getElem?_eq_some_iff.1 hc
  unfold allL
  rw [List.drop_eq_getElem_cons hk, List.all_cons]
theorem allL_end (q : UInt8 → Bool) (l : List UInt8) : allL q (l.drop l.length) = true := by unfold allL; rw [List.drop_length]; rfl
end Go.Wds
namespace Go.Proofs
open Go.RowKit Go.Shelf Go.Wds

theorem Try.spanAZ (w : World) : Calls Try.prog 54 #[.int .i32 65, .int .i32 90] w fun e w' => ∃ v, e = .returned v ∧ IsClass v (between 65 90) w' ∧ Below w.heap.size w w' := Try.span_calls 65 90 w
theorem Try.spanaz (w : World) : Calls Try.prog 54 #[.int .i32 97, .int .i32 122] w fun e w' => ∃ v, e = .returned v ∧ IsClass v (between 97 122) w' ∧ Below w.heap.size w w' := Try.span_calls 97 122 w
theorem Try.span09 (w : World) : Calls Try.prog 54 #[.int .i32 48, .int .i32 57] w fun e w' => ∃ v, e = .returned v ∧ IsClass v (between 48 57) w' ∧ Below w.heap.size w w' := Try.span_calls 48 57 w
theorem Try.spanSigns (w : World) : Calls Try.prog 54 #[.int .i32 32, .int .i32 126] w fun e w' => ∃ v, e = .returned v ∧ IsClass v (between 32 126) w' ∧ Below w.heap.size w w' := Try.span_calls 32 126 w
theorem Try.oneMarks (w : World) : Calls Try.prog 55 #[.string { data := #[46, 95, 45] }] w fun e w' => ∃ v, e = .returned v ∧ IsClass v (has sMarks) w' ∧ Below w.heap.size w w' := Try.oneOf_calls sMarks w low_marks


set_option maxRecDepth 100000 in
theorem Try.Name_calls (s : ByteArray) (w : World) (hs : s.size ≤ 2000000) :
    Calls Try.prog 41 #[.string s] w fun e w' => e = .returned (.bool (nameL s.data.toList)) ∧ Below w.heap.size w w' := by
  have hc := Lib.hid fun v W (hv : IsClass v nameP W) => Try.fits_calls s W hs flat_name hv
  go_enter Try.func41, Try.ntmps41
  go_wp2_with (fail)
  refine (Try.spanAZ _).mono ?_
  rintro e w1 ⟨v1, rfl, hv, hb1⟩
  have H1 := Lib.hid hv
  obtain ⟨g1, l1, rfl, _⟩ := hv
  go_wp2_with (fail)
  refine (Try.spanaz _).mono ?_
  rintro e w2 ⟨v2, rfl, hv, hb2⟩
  have H2 := Lib.hid hv
  obtain ⟨g2, l2, rfl, _⟩ := hv
  go_wp2_with (fail)
  refine (Try.span09 _).mono ?_
  rintro e w3 ⟨v3, rfl, hv, hb3⟩
  have H3 := Lib.hid hv
  obtain ⟨g3, l3, rfl, _⟩ := hv
  go_wp2_with (fail)
  refine (Try.oneMarks _).mono ?_
  rintro e w4 ⟨v4, rfl, hv, hb4⟩
  have H4 := Lib.hid hv
  obtain ⟨g4, l4, rfl, _⟩ := hv
  go_wp2_with (fail)
  refine (Try.either4 (H1.out.later ((hb2.trans (hb3.mono hb2.size)).trans (hb4.mono (hb2.trans (hb3.mono hb2.size)).size))) (H2.out.later (hb3.trans (hb4.mono hb3.size))) (H3.out.later hb4) H4.out).mono ?_
  rintro e w5 ⟨v5, rfl, hv, hb5⟩
  have H5 := Lib.hid hv
  clear hv
  have B := hb1.trans ((hb2.trans ((hb3.trans ((hb4.trans (hb5.mono hb4.size)).mono hb3.size)).mono hb2.size)).mono hb1.size)
  clear hb1 hb2 hb3 hb4 hb5 H1 H2 H3 H4
  go_wp2_with (fail)
  refine (hc.out _ _ H5.out).mono ?_
  rintro e w6 ⟨rfl, hb6⟩
  go_wp2
  go_ret
  exact ⟨rfl, B.trans (hb6.mono B.size)⟩


set_option maxRecDepth 100000 in
set_option maxHeartbeats 2000000 in
theorem Try.rName_calls (s : ByteArray) (w : World) (hs : s.size ≤ 2000000) :
    Calls Try.prog 28 #[.string s] w fun e w' => e = .returned (.bool (nameL s.data.toList)) ∧ w' = w := by
  have HL := Lib.hid (show s.data.toList.length = s.size by simp)
  have hN : nameL s.data.toList = (decide (1 ≤ s.size) && decide (s.size ≤ 40) && allL (ofB nameP) s.data.toList) := by unfold nameL fitL; rw [HL.out]
  obtain ⟨q, hq⟩ : ∃ q, ofB nameP = q := ⟨_, rfl⟩
  have HQ := Lib.hid hq
  rw [hq] at hN
  have HN := Lib.hid hN
  clear hq hN
  go_enter Try.func28, Try.ntmps28
  go_wp2
  go_loop [3] (fun i => ∃ k : Nat, i = .int .i64 (k : Int) ∧ k ≤ s.size ∧ Hid (allL q s.data.toList = allL q (s.data.toList.drop k))) (fun i => s.size - (intOf i).toNat)
  case atStart => exact ⟨0, rfl, Nat.zero_le _, Lib.hid rfl⟩
  case round =>
    obtain ⟨k, rfl, hk, HA⟩ := hrel
    by_cases hlt : k < s.size
    · have hst := allL_step (q := q) (list_get s k hlt)
      have hqc : q (s[k]'hlt) = nameP (s[k]'hlt).toNat := by rw [← HQ.out]; rfl
      rw [nameP_eq] at hqc
      have hst2 := HA.out.trans hst
      rw [hqc] at hst2
      clear hst hqc
      have hparts : ((s[k]'hlt).toNat = 45 ∨ (s[k]'hlt).toNat = 46 ∨ (48 ≤ (s[k]'hlt).toNat ∧ (s[k]'hlt).toNat ≤ 57) ∨ (65 ≤ (s[k]'hlt).toNat ∧ (s[k]'hlt).toNat ≤ 90) ∨ (s[k]'hlt).toNat = 95 ∨ (97 ≤ (s[k]'hlt).toNat ∧ (s[k]'hlt).toNat ≤ 122)) ∨
          ((s[k]'hlt).toNat < 45 ∨ (s[k]'hlt).toNat = 47 ∨ (58 ≤ (s[k]'hlt).toNat ∧ (s[k]'hlt).toNat ≤ 64) ∨ (91 ≤ (s[k]'hlt).toNat ∧ (s[k]'hlt).toNat ≤ 94) ∨ (s[k]'hlt).toNat = 96 ∨ 123 ≤ (s[k]'hlt).toNat) := by omega
      rcases hparts with hp | hp
      · rcases hp with hp | hp | hp | hp | hp | hp
        all_goals
          rw [show decide ((65 ≤ (s[k]'hlt).toNat ∧ (s[k]'hlt).toNat ≤ 90) ∨ (97 ≤ (s[k]'hlt).toNat ∧ (s[k]'hlt).toNat ≤ 122) ∨ (48 ≤ (s[k]'hlt).toNat ∧ (s[k]'hlt).toNat ≤ 57) ∨ (s[k]'hlt).toNat = 46 ∨ (s[k]'hlt).toNat = 95 ∨ (s[k]'hlt).toNat = 45) = true from decide_eq_true (by omega), Bool.true_and] at hst2
          have HS := Lib.hid hst2
          clear hst2
          first | have d1 : decide (((s[k]'hlt).toNat : Int) < 65) = true := decide_eq_true (by omega) | have d1 : decide (((s[k]'hlt).toNat : Int) < 65) = false := decide_eq_false (by omega)
          first | have d2 : decide ((90 : Int) < ((s[k]'hlt).toNat : Int)) = true := decide_eq_true (by omega) | have d2 : decide ((90 : Int) < ((s[k]'hlt).toNat : Int)) = false := decide_eq_false (by omega)
          first | have d3 : decide (((s[k]'hlt).toNat : Int) < 97) = true := decide_eq_true (by omega) | have d3 : decide (((s[k]'hlt).toNat : Int) < 97) = false := decide_eq_false (by omega)
          first | have d4 : decide ((122 : Int) < ((s[k]'hlt).toNat : Int)) = true := decide_eq_true (by omega) | have d4 : decide ((122 : Int) < ((s[k]'hlt).toNat : Int)) = false := decide_eq_false (by omega)
          first | have d5 : decide (((s[k]'hlt).toNat : Int) < 48) = true := decide_eq_true (by omega) | have d5 : decide (((s[k]'hlt).toNat : Int) < 48) = false := decide_eq_false (by omega)
          first | have d6 : decide ((57 : Int) < ((s[k]'hlt).toNat : Int)) = true := decide_eq_true (by omega) | have d6 : decide ((57 : Int) < ((s[k]'hlt).toNat : Int)) = false := decide_eq_false (by omega)
          first | have d7 : (((s[k]'hlt).toNat : Int) != 46) = true := bne_iff_ne.2 (by omega) | have d7 : (((s[k]'hlt).toNat : Int) != 46) = false := bne_eq_false_iff_eq.2 (by omega)
          first | have d8 : (((s[k]'hlt).toNat : Int) != 95) = true := bne_iff_ne.2 (by omega) | have d8 : (((s[k]'hlt).toNat : Int) != 95) = false := bne_eq_false_iff_eq.2 (by omega)
          first | have d9 : (((s[k]'hlt).toNat : Int) != 45) = true := bne_iff_ne.2 (by omega) | have d9 : (((s[k]'hlt).toNat : Int) != 45) = false := bne_eq_false_iff_eq.2 (by omega)
          clear hp
          go_wp2
          go_round
          case rel => exact ⟨k + 1, by go_num, by omega, HS⟩
          case measure => simp [intOf]; omega
      · rcases hp with hp | hp | hp | hp | hp | hp
        all_goals
          rw [show decide ((65 ≤ (s[k]'hlt).toNat ∧ (s[k]'hlt).toNat ≤ 90) ∨ (97 ≤ (s[k]'hlt).toNat ∧ (s[k]'hlt).toNat ≤ 122) ∨ (48 ≤ (s[k]'hlt).toNat ∧ (s[k]'hlt).toNat ≤ 57) ∨ (s[k]'hlt).toNat = 46 ∨ (s[k]'hlt).toNat = 95 ∨ (s[k]'hlt).toNat = 45) = false from decide_eq_false (by omega), Bool.false_and] at hst2
          have HS := Lib.hid hst2
          clear hst2
          first | have d1 : decide (((s[k]'hlt).toNat : Int) < 65) = true := decide_eq_true (by omega) | have d1 : decide (((s[k]'hlt).toNat : Int) < 65) = false := decide_eq_false (by omega)
          first | have d2 : decide ((90 : Int) < ((s[k]'hlt).toNat : Int)) = true := decide_eq_true (by omega) | have d2 : decide ((90 : Int) < ((s[k]'hlt).toNat : Int)) = false := decide_eq_false (by omega)
          first | have d3 : decide (((s[k]'hlt).toNat : Int) < 97) = true := decide_eq_true (by omega) | have d3 : decide (((s[k]'hlt).toNat : Int) < 97) = false := decide_eq_false (by omega)
          first | have d4 : decide ((122 : Int) < ((s[k]'hlt).toNat : Int)) = true := decide_eq_true (by omega) | have d4 : decide ((122 : Int) < ((s[k]'hlt).toNat : Int)) = false := decide_eq_false (by omega)
          first | have d5 : decide (((s[k]'hlt).toNat : Int) < 48) = true := decide_eq_true (by omega) | have d5 : decide (((s[k]'hlt).toNat : Int) < 48) = false := decide_eq_false (by omega)
          first | have d6 : decide ((57 : Int) < ((s[k]'hlt).toNat : Int)) = true := decide_eq_true (by omega) | have d6 : decide ((57 : Int) < ((s[k]'hlt).toNat : Int)) = false := decide_eq_false (by omega)
          first | have d7 : (((s[k]'hlt).toNat : Int) != 46) = true := bne_iff_ne.2 (by omega) | have d7 : (((s[k]'hlt).toNat : Int) != 46) = false := bne_eq_false_iff_eq.2 (by omega)
          first | have d8 : (((s[k]'hlt).toNat : Int) != 95) = true := bne_iff_ne.2 (by omega) | have d8 : (((s[k]'hlt).toNat : Int) != 95) = false := bne_eq_false_iff_eq.2 (by omega)
          first | have d9 : (((s[k]'hlt).toNat : Int) != 45) = true := bne_iff_ne.2 (by omega) | have d9 : (((s[k]'hlt).toNat : Int) != 45) = false := bne_eq_false_iff_eq.2 (by omega)
          clear hp
          go_wp2
          go_ret
          rw [HN.out, HS.out, Bool.and_false]
          exact ⟨rfl, rfl⟩
    · have hkk : k = s.size := by omega
      subst hkk
      have HS := Lib.hid (HA.out.trans (show allL q (s.data.toList.drop s.size) = true by rw [← HL.out]; exact allL_end _ _))
      by_cases h1 : 1 ≤ s.size
      · have d1 : decide (1 ≤ (s.size : Int)) = true := decide_eq_true (by omega)
        have HN1 := Lib.hid (decide_eq_true h1)
        by_cases h2 : s.size ≤ 40
        · have d2 : decide ((s.size : Int) ≤ 40) = true := decide_eq_true (by omega)
          have HN2 := Lib.hid (decide_eq_true h2)
          clear h1 h2
          go_wp2
          go_ret
          rw [HN.out, HS.out, HN1.out, HN2.out]
          exact ⟨rfl, rfl⟩
        · have d2 : decide ((s.size : Int) ≤ 40) = false := decide_eq_false (by omega)
          have HN2 := Lib.hid (decide_eq_false h2)
          clear h1 h2
          go_wp2
          go_ret
          rw [HN.out, HS.out, HN1.out, HN2.out]
          exact ⟨rfl, rfl⟩
      · have d1 : decide (1 ≤ (s.size : Int)) = false := decide_eq_false (by omega)
        have HN1 := Lib.hid (decide_eq_false h1)
        clear h1
        go_wp2
        go_ret
        rw [HN.out, HS.out, HN1.out, Bool.false_and, Bool.false_and]
        exact ⟨rfl, rfl⟩
#print axioms Try.Name_calls
#print axioms Try.rName_calls
end Go.Proofs
