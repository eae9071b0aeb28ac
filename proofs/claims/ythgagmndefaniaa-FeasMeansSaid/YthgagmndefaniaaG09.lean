/- words.Name and words.Plain of this program, and the document's own, as contracts. Conditions: a text of at most two million bytes. -/
import Derived.Test.YthgagmndefaniaaG08
import Derived.Test.YthgagmndefaniaaG07
import Derived.Test.YthgagmndefaniaaShelf
import Derived.Shelf.Abstract
import Derived.Shelf.RegionOpen
import Derived.WalkKit
import Derived.LoopNIn
import Derived.LoopIn
import Derived.Lib.OthersKept
import Derived.Lib.Hide
import Derived.Test.YthgagmndefaniaaG05
namespace Go.Wds
open Go.Proofs
def sMarks : ByteArray := ⟨#[46, 95, 45]⟩
theorem low_marks : Low sMarks := by unfold Low; decide
theorem flat_between {a b : Nat} (hb : b < 128) : Flat (between a b) := fun r hr => by
  unfold between
  rw [show decide (r ≤ b) = false from decide_eq_false (by omega), show decide (128 ≤ b) = false from decide_eq_false (by omega)]; simp
theorem flat_has2 {s : ByteArray} (h : Low s) : Flat (has s) := fun r hr => by rw [has_high h hr, has_high h (Nat.le_refl _)]
theorem flat_any : ∀ {ps : List (Nat → Bool)}, (∀ p ∈ ps, Flat p) → Flat (anyOf ps)
  | [], _ => fun _ _ => rfl
  | p :: ps, h => fun r hr => by
    show (p r || anyOf ps r) = (p 128 || anyOf ps 128)
    rw [h p (by simp) r hr, flat_any (fun q hq => h q (by simp [hq])) r hr]
def nameP : Nat → Bool := anyOf [between 65 90, between 97 122, between 48 57, has sMarks]
theorem flat_name : Flat nameP := flat_any (by
  intro p hp
  simp only [List.mem_cons, List.not_mem_nil, or_false] at hp
  rcases hp with rfl | rfl | rfl | rfl
  · exact flat_between (by decide)
  · exact flat_between (by decide)
  · exact flat_between (by decide)
  · exact flat_has2 low_marks)
theorem nameP_eq (n : Nat) : nameP n = decide ((65 ≤ n ∧ n ≤ 90) ∨ (97 ≤ n ∧ n ≤ 122) ∨ (48 ≤ n ∧ n ≤ 57) ∨ n = 46 ∨ n = 95 ∨ n = 45) := by
  show ((decide (65 ≤ n) && decide (n ≤ 90)) || ((decide (97 ≤ n) && decide (n ≤ 122)) || ((decide (48 ≤ n) && decide (n ≤ 57)) || (((46 == n) || ((95 == n) || ((45 == n) || false))) || false)))) = _
  rw [Bool.eq_iff_iff]
  simp only [Bool.or_eq_true, Bool.and_eq_true, decide_eq_true_iff, beq_iff_eq, Bool.false_eq_true, or_false]
  omega
/-- May a text be a name? -/
def nameL (l : List UInt8) : Bool := fitL (ofB nameP) l
/-- Are all bytes of a text 32 to 126? -/
def plainL (l : List UInt8) : Bool := allL (ofB (between 32 126)) l
theorem plainP_eq (n : Nat) : between 32 126 n = decide (32 ≤ n ∧ n ≤ 126) := by
  unfold between; rw [Bool.decide_and]
theorem allL_step {q : UInt8 → Bool} {l : List UInt8} {k : Nat} {c : UInt8} (hc : l[k]? = some c) : allL q (l.drop k) = (q c && allL q (l.drop (k + 1))) := by
  obtain ⟨hk, rfl⟩ := List.getElem?_eq_some_iff.1 hc
  unfold allL
  rw [List.drop_eq_getElem_cons hk, List.all_cons]
theorem allL_end (q : UInt8 → Bool) (l : List UInt8) : allL q (l.drop l.length) = true := by unfold allL; rw [List.drop_length]; rfl
end Go.Wds
namespace Go.Proofs
open Go.RowKit Go.Shelf Go.Wds





set_option maxRecDepth 100000 in
set_option maxHeartbeats 2000000 in
theorem Try.rName_calls (s : ByteArray) (w : World) (hs : s.size ≤ 2000000) :
    Calls Try.prog 62 #[.string s] w fun e w' => e = .returned (.bool (nameL s.data.toList)) ∧ w' = w := by
  have HL := Lib.hid (show s.data.toList.length = s.size by simp)
  have hN : nameL s.data.toList = (decide (1 ≤ s.size) && decide (s.size ≤ 40) && allL (ofB nameP) s.data.toList) := by unfold nameL fitL; rw [HL.out]
  obtain ⟨q, hq⟩ : ∃ q, ofB nameP = q := ⟨_, rfl⟩
  have HQ := Lib.hid hq
  rw [hq] at hN
  have HN := Lib.hid hN
  clear hq hN
  go_enter Try.func62, Try.ntmps62
  go_wp2
  go_loop [3] (fun i => ∃ k : Nat, i = .int .i64 (k : Int) ∧ k ≤ s.size ∧ Hid (allL q s.data.toList = allL q (s.data.toList.drop k))) (fun i => s.size - (intOf i).toNat)
  case atStart => exact ⟨0, rfl, Nat.zero_le _, Lib.hid rfl⟩
  case round =>
    obtain ⟨k, rfl, hk, HA⟩ := hrel
    by_cases hlt : k < s.size
    · have hst := allL_step (q := q) (list_get s k hlt)
      have hqc : q (s[k]'hlt) = nameP (s[k]'hlt).toNat := by rw [← HQ.out]; rfl
      rw [nameP_eq] at hqc
      have hst2 := HA.out.trans hst
      rw [hqc] at hst2
      clear hst hqc
      have hparts : ((s[k]'hlt).toNat = 45 ∨ (s[k]'hlt).toNat = 46 ∨ (48 ≤ (s[k]'hlt).toNat ∧ (s[k]'hlt).toNat ≤ 57) ∨ (65 ≤ (s[k]'hlt).toNat ∧ (s[k]'hlt).toNat ≤ 90) ∨ (s[k]'hlt).toNat = 95 ∨ (97 ≤ (s[k]'hlt).toNat ∧ (s[k]'hlt).toNat ≤ 122)) ∨
          ((s[k]'hlt).toNat < 45 ∨ (s[k]'hlt).toNat = 47 ∨ (58 ≤ (s[k]'hlt).toNat ∧ (s[k]'hlt).toNat ≤ 64) ∨ (91 ≤ (s[k]'hlt).toNat ∧ (s[k]'hlt).toNat ≤ 94) ∨ (s[k]'hlt).toNat = 96 ∨ 123 ≤ (s[k]'hlt).toNat) := by omega
      rcases hparts with hp | hp
      · rcases hp with hp | hp | hp | hp | hp | hp
        all_goals
          rw [show decide ((65 ≤ (s[k]'hlt).toNat ∧ (s[k]'hlt).toNat ≤ 90) ∨ (97 ≤ (s[k]'hlt).toNat ∧ (s[k]'hlt).toNat ≤ 122) ∨ (48 ≤ (s[k]'hlt).toNat ∧ (s[k]'hlt).toNat ≤ 57) ∨ (s[k]'hlt).toNat = 46 ∨ (s[k]'hlt).toNat = 95 ∨ (s[k]'hlt).toNat = 45) = true from decide_eq_true (by omega), Bool.true_and] at hst2
          have HS := Lib.hid hst2
          clear hst2
          first | have d1 : decide (((s[k]'hlt).toNat : Int) < 65) = true := decide_eq_true (by omega) | have d1 : decide (((s[k]'hlt).toNat : Int) < 65) = false := decide_eq_false (by omega)
          first | have d2 : decide ((90 : Int) < ((s[k]'hlt).toNat : Int)) = true := decide_eq_true (by omega) | have d2 : decide ((90 : Int) < ((s[k]'hlt).toNat : Int)) = false := decide_eq_false (by omega)
          first | have d3 : decide (((s[k]'hlt).toNat : Int) < 97) = true := decide_eq_true (by omega) | have d3 : decide (((s[k]'hlt).toNat : Int) < 97) = false := decide_eq_false (by omega)
          first | have d4 : decide ((122 : Int) < ((s[k]'hlt).toNat : Int)) = true := decide_eq_true (by omega) | have d4 : decide ((122 : Int) < ((s[k]'hlt).toNat : Int)) = false := decide_eq_false (by omega)
          first | have d5 : decide (((s[k]'hlt).toNat : Int) < 48) = true := decide_eq_true (by omega) | have d5 : decide (((s[k]'hlt).toNat : Int) < 48) = false := decide_eq_false (by omega)
          first | have d6 : decide ((57 : Int) < ((s[k]'hlt).toNat : Int)) = true := decide_eq_true (by omega) | have d6 : decide ((57 : Int) < ((s[k]'hlt).toNat : Int)) = false := decide_eq_false (by omega)
          first | have d7 : (((s[k]'hlt).toNat : Int) != 46) = true := bne_iff_ne.2 (by omega) | have d7 : (((s[k]'hlt).toNat : Int) != 46) = false := bne_eq_false_iff_eq.2 (by omega)
          first | have d8 : (((s[k]'hlt).toNat : Int) != 95) = true := bne_iff_ne.2 (by omega) | have d8 : (((s[k]'hlt).toNat : Int) != 95) = false := bne_eq_false_iff_eq.2 (by omega)
          first | have d9 : (((s[k]'hlt).toNat : Int) != 45) = true := bne_iff_ne.2 (by omega) | have d9 : (((s[k]'hlt).toNat : Int) != 45) = false := bne_eq_false_iff_eq.2 (by omega)
          clear hp
          go_wp2
          go_round
          case rel => exact ⟨k + 1, by go_num, by omega, HS⟩
          case measure => simp [intOf]; omega
      · rcases hp with hp | hp | hp | hp | hp | hp
        all_goals
          rw [show decide ((65 ≤ (s[k]'hlt).toNat ∧ (s[k]'hlt).toNat ≤ 90) ∨ (97 ≤ (s[k]'hlt).toNat ∧ (s[k]'hlt).toNat ≤ 122) ∨ (48 ≤ (s[k]'hlt).toNat ∧ (s[k]'hlt).toNat ≤ 57) ∨ (s[k]'hlt).toNat = 46 ∨ (s[k]'hlt).toNat = 95 ∨ (s[k]'hlt).toNat = 45) = false from decide_eq_false (by omega), Bool.false_and] at hst2
          have HS := Lib.hid hst2
          clear hst2
          first | have d1 : decide (((s[k]'hlt).toNat : Int) < 65) = true := decide_eq_true (by omega) | have d1 : decide (((s[k]'hlt).toNat : Int) < 65) = false := decide_eq_false (by omega)
          first | have d2 : decide ((90 : Int) < ((s[k]'hlt).toNat : Int)) = true := decide_eq_true (by omega) | have d2 : decide ((90 : Int) < ((s[k]'hlt).toNat : Int)) = false := decide_eq_false (by omega)
          first | have d3 : decide (((s[k]'hlt).toNat : Int) < 97) = true := decide_eq_true (by omega) | have d3 : decide (((s[k]'hlt).toNat : Int) < 97) = false := decide_eq_false (by omega)
          first | have d4 : decide ((122 : Int) < ((s[k]'hlt).toNat : Int)) = true := decide_eq_true (by omega) | have d4 : decide ((122 : Int) < ((s[k]'hlt).toNat : Int)) = false := decide_eq_false (by omega)
          first | have d5 : decide (((s[k]'hlt).toNat : Int) < 48) = true := decide_eq_true (by omega) | have d5 : decide (((s[k]'hlt).toNat : Int) < 48) = false := decide_eq_false (by omega)
          first | have d6 : decide ((57 : Int) < ((s[k]'hlt).toNat : Int)) = true := decide_eq_true (by omega) | have d6 : decide ((57 : Int) < ((s[k]'hlt).toNat : Int)) = false := decide_eq_false (by omega)
          first | have d7 : (((s[k]'hlt).toNat : Int) != 46) = true := bne_iff_ne.2 (by omega) | have d7 : (((s[k]'hlt).toNat : Int) != 46) = false := bne_eq_false_iff_eq.2 (by omega)
          first | have d8 : (((s[k]'hlt).toNat : Int) != 95) = true := bne_iff_ne.2 (by omega) | have d8 : (((s[k]'hlt).toNat : Int) != 95) = false := bne_eq_false_iff_eq.2 (by omega)
          first | have d9 : (((s[k]'hlt).toNat : Int) != 45) = true := bne_iff_ne.2 (by omega) | have d9 : (((s[k]'hlt).toNat : Int) != 45) = false := bne_eq_false_iff_eq.2 (by omega)
          clear hp
          go_wp2
          go_ret
          rw [HN.out, HS.out, Bool.and_false]
          exact ⟨rfl, rfl⟩
    · have hkk : k = s.size := by omega
      subst hkk
      have HS := Lib.hid (HA.out.trans (show allL q (s.data.toList.drop s.size) = true by rw [← HL.out]; exact allL_end _ _))
      by_cases h1 : 1 ≤ s.size
      · have d1 : decide (1 ≤ (s.size : Int)) = true := decide_eq_true (by omega)
        have HN1 := Lib.hid (decide_eq_true h1)
        by_cases h2 : s.size ≤ 40
        · have d2 : decide ((s.size : Int) ≤ 40) = true := decide_eq_true (by omega)
          have HN2 := Lib.hid (decide_eq_true h2)
          clear h1 h2
          go_wp2
          go_ret
          rw [HN.out, HS.out, HN1.out, HN2.out]
          exact ⟨rfl, rfl⟩
        · have d2 : decide ((s.size : Int) ≤ 40) = false := decide_eq_false (by omega)
          have HN2 := Lib.hid (decide_eq_false h2)
          clear h1 h2
          go_wp2
          go_ret
          rw [HN.out, HS.out, HN1.out, HN2.out]
          exact ⟨rfl, rfl⟩
      · have d1 : decide (1 ≤ (s.size : Int)) = false := decide_eq_false (by omega)
        have HN1 := Lib.hid (decide_eq_false h1)
        clear h1
        go_wp2
        go_ret
        rw [HN.out, HS.out, HN1.out, Bool.false_and, Bool.false_and]
        exact ⟨rfl, rfl⟩
#print axioms Try.rName_calls
end Go.Proofs
/- The small functions of package metric, and those of the document's own answers: Known, fits, size, power, nearest; far. Conditions: where a number is doubled, that it has room. -/
namespace Go.Metric
def knownB (k : Int) : Bool := decide (0 ≤ k) && decide (k ≤ 6)
def fitsB (n : Int) : Bool := decide (-200000000 ≤ n) && decide (n ≤ 200000000)
theorem fitsB_true {n : Int} (h : fitsB n = true) : -200000000 ≤ n ∧ n ≤ 200000000 := by simpa [fitsB] using h
theorem fitsB_abs {n : Int} (h : fitsB n = true) : n.natAbs ≤ 200000000 := by have := fitsB_true h; omega
theorem fitsB_of {n : Int} (h1 : -200000000 ≤ n) (h2 : n ≤ 200000000) : fitsB n = true := by simp [fitsB, h1, h2]
theorem knownB_true {k : Int} (h : knownB k = true) : 0 ≤ k ∧ k ≤ 6 := by simpa [knownB] using h
end Go.Metric
namespace Go.Proofs
open Go.RowKit Go.Shelf Go.Root Go.Metric
attribute [local go_sem] Oper.semAt_some

theorem ret_is {a b : Bool} (h : a = b) : Ending.returned (.bool a) = .returned (.bool b) := by rw [h]
theorem mret_num {a b : Int} (h : a = b) : Ending.returned (.int .i64 a) = .returned (.int .i64 b) := by rw [h]

theorem Try.Known_calls (k : Int) (w : World) :
    Calls Try.prog 74 #[.int .i64 k] w fun e w' => e = .returned (.bool (knownB k)) ∧ w' = w := by
  by_cases h1 : 0 ≤ k
  · by_cases h2 : k ≤ 6
    · go_enter Try.func74, Try.ntmps74
      go_wp2
      go_ret
      exact ⟨ret_is (by simp [knownB]; omega), rfl⟩
    · go_enter Try.func74, Try.ntmps74
      go_wp2
      go_ret
      exact ⟨ret_is (by simp [knownB]; omega), rfl⟩
  · go_enter Try.func74, Try.ntmps74
    go_wp2
    go_ret
    exact ⟨ret_is (by simp [knownB]; omega), rfl⟩
theorem Try.RKnown_calls (k : Int) (w : World) :
    Calls Try.prog 63 #[.int .i64 k] w fun e w' => e = .returned (.bool (knownB k)) ∧ w' = w := by
  by_cases h1 : 0 ≤ k
  · by_cases h2 : k ≤ 6
    · go_enter Try.func63, Try.ntmps63
      go_wp2
      go_ret
      exact ⟨ret_is (by simp [knownB]; omega), rfl⟩
    · go_enter Try.func63, Try.ntmps63
      go_wp2
      go_ret
      exact ⟨ret_is (by simp [knownB]; omega), rfl⟩
  · go_enter Try.func63, Try.ntmps63
    go_wp2
    go_ret
    exact ⟨ret_is (by simp [knownB]; omega), rfl⟩
theorem Try.mfits_calls (n : Int) (w : World) :
    Calls Try.prog 75 #[.int .i64 n] w fun e w' => e = .returned (.bool (fitsB n)) ∧ w' = w := by
  by_cases h1 : -200000000 ≤ n
  · by_cases h2 : n ≤ 200000000
    · go_enter Try.func75, Try.ntmps75
      go_wp2
      go_ret
      exact ⟨ret_is (by simp [fitsB]; omega), rfl⟩
    · go_enter Try.func75, Try.ntmps75
      go_wp2
      go_ret
      exact ⟨ret_is (by simp [fitsB]; omega), rfl⟩
  · go_enter Try.func75, Try.ntmps75
    go_wp2
    go_ret
    exact ⟨ret_is (by simp [fitsB]; omega), rfl⟩
theorem Try.far_calls (n : Int) (w : World) :
    Calls Try.prog 84 #[.int .i64 n] w fun e w' => e = .returned (.bool (!fitsB n)) ∧ w' = w := by
  by_cases h1 : n < -200000000
  · go_enter Try.func84, Try.ntmps84
    go_wp2
    go_ret
    exact ⟨ret_is (by simp [fitsB]; omega), rfl⟩
  · by_cases h2 : 200000000 < n
    · go_enter Try.func84, Try.ntmps84
      go_wp2
      go_ret
      exact ⟨ret_is (by simp [fitsB]; omega), rfl⟩
    · go_enter Try.func84, Try.ntmps84
      go_wp2
      go_ret
      exact ⟨ret_is (by simp [fitsB]; omega), rfl⟩
theorem Try.size_calls (n : Int) (w : World) (h1 : -200000000 ≤ n) (h2 : n ≤ 200000000) :
    Calls Try.prog 77 #[.int .i64 n] w fun e w' => e = .returned (.int .i64 (n.natAbs : Int)) ∧ w' = w := by
  go_enter Try.func77, Try.ntmps77
  go_wp2
  go_ret
  exact ⟨mret_num (by go_num), rfl⟩
theorem Try.power_calls (k : Nat) (w : World) (hk : k ≤ 6) :
    Calls Try.prog 78 #[.int .i64 (k : Int)] w fun e w' => e = .returned (.int .i64 ((10 ^ k : Nat) : Int)) ∧ w' = w := by
  go_enter Try.func78, Try.ntmps78
  go_wp2
  go_loop [3, 5] (fun t i => ∃ j : Nat, j ≤ k ∧ i = .int .i64 j ∧ t = .int .i64 ((10 ^ j : Nat) : Int)) (fun _ i => k - (intOf i).toNat)
  case atStart => exact ⟨0, Nat.zero_le _, rfl, rfl⟩
  case round =>
    obtain ⟨j, hj, rfl, rfl⟩ := hrel
    by_cases hlt : j < k
    · obtain ⟨t, ht⟩ : ∃ t : Int, t = ((10 ^ j : Nat) : Int) := ⟨_, rfl⟩
      have htb : t ≤ 100000000000000000 := by
        rw [ht]; have : 10 ^ j ≤ 10 ^ 17 := Nat.pow_le_pow_right (by omega) (by omega); omega
      have ht0 : 0 ≤ t := by rw [ht]; exact Int.natCast_nonneg _
      rw [← ht]
      have Ht := Lib.hid ht
      clear ht
      go_wp2
      go_round
      case rel => exact ⟨j + 1, by omega, by go_num, by rw [Ht.out]; rw [Nat.pow_succ]; go_num⟩
      case measure => simp [intOf]; omega
    · obtain rfl : j = k := by omega
      go_wp2
      go_ret
      exact ⟨rfl, rfl⟩
theorem Try.nearest_calls (a t : Nat) (w : World) (ha : a ≤ 400000000) (ht : 1 ≤ t) (ht9 : t ≤ 1000000) :
    Calls Try.prog 94 #[.int .i64 (a : Int), .int .i64 (t : Int)] w fun e w' => e = .returned (.int .i64 (nst a t : Int)) ∧ w' = w := by
  have hne : (2 * (t : Int) == 0) = false := beq_eq_false_iff_ne.2 (by omega)
  have hR : ((nst a t : Nat) : Int) = (2 * (a : Int) + (t : Int)) / (2 * (t : Int)) := by simp [nst]
  go_enter Try.func94, Try.ntmps94
  go_wp2
  go_ret
  exact ⟨by rw [hR]; rfl, rfl⟩
theorem Try.Rnearest_calls (a t : Nat) (w : World) (ha : a ≤ 400000000) (ht : 1 ≤ t) (ht9 : t ≤ 1000000) :
    Calls Try.prog 87 #[.int .i64 (a : Int), .int .i64 (t : Int)] w fun e w' => e = .returned (.int .i64 (nst a t : Int)) ∧ w' = w := by
  have hne : (2 * (t : Int) == 0) = false := beq_eq_false_iff_ne.2 (by omega)
  have hR : ((nst a t : Nat) : Int) = (2 * (a : Int) + (t : Int)) / (2 * (t : Int)) := by simp [nst]
  go_enter Try.func87, Try.ntmps87
  go_wp2
  go_ret
  exact ⟨by rw [hR]; rfl, rfl⟩
end Go.Proofs
/- The law's own well: what may be looked at. Conditions: none. -/
namespace Go.Feas
open Go.Canon
def nameQ (s : ByteArray) : Bool := Go.Wds.nameL s.data.toList
def wellQ (x : Ins) : Bool := decide (x.nodes.length ≤ 400) && decide (x.matrix.length ≤ 1000) && decide (x.name.size ≤ 100) && wellB nameQ x
structure WellQ (x : Ins) : Prop where
  nodes : x.nodes.length ≤ 400
  matrix : x.matrix.length ≤ 1000
  name : x.name.size ≤ 100
  well : Well nameQ x
theorem wellQ_iff {x : Ins} : wellQ x = true ↔ WellQ x := by
  unfold wellQ
  simp only [Bool.and_eq_true, decide_eq_true_eq]
  exact ⟨fun h => ⟨h.1.1.1, h.1.1.2, h.1.2, well_iff.1 h.2⟩, fun h => ⟨⟨⟨h.nodes, h.matrix⟩, h.name⟩, well_iff.2 h.well⟩⟩
end Go.Feas
namespace Go.Proofs
open Go.RowKit Go.Shelf Go.Canon Go.Feas
attribute [local go_sem] Oper.semAt_some
theorem Try.fhNB : ∀ (s : ByteArray) (W : World), s.size ≤ 100 → Calls Try.prog 62 #[.string s] W fun e w' => e = .returned (.bool (nameQ s)) ∧ Below W.heap.size W w' := fun s W h =>
  (Try.rName_calls s W (Nat.le_trans h (by decide))).mono fun _ _ ⟨h1, h2⟩ => ⟨h1, h2 ▸ Below.refl _ _⟩
theorem Try.fhKB : ∀ (m : Int) (W : World), Calls Try.prog 63 #[.int .i64 m] W fun e w' => e = .returned (.bool (metricB m)) ∧ Below W.heap.size W w' := fun m W =>
  (Try.RKnown_calls m W).mono fun _ _ ⟨h1, h2⟩ => ⟨h1, h2 ▸ Below.refl _ _⟩
/-- The law's its, as what it reads as. -/
theorem Try.its_any (x : Ins) (vn vm : Value) (w : World) (hx : HasIns w vn vm x) (h1 : x.nodes.length ≤ 419) :
    Calls Try.prog 18 #[insV x vn vm] w fun e w' => ∃ v', e = .returned (insV x v' vm) ∧ HasIns w' v' vm x ∧ Below w.heap.size w w' :=
  (Try.fits11_calls x vn vm w hx h1).mono fun _ _ ⟨v', h1, h2, h3⟩ => ⟨v', h1, ⟨nodes_of_owns h2, hx.matrix.next h3⟩, h3⟩
set_option maxRecDepth 100000 in
theorem Try.lwell_calls (x : Ins) (vn vm : Value) (w : World) (hx : HasIns w vn vm x) :
    Calls Try.prog 11 #[insV x vn vm] w fun e w' => e = .returned (.bool (wellQ x)) ∧ Below w.heap.size w w' := by
  have HX := Lib.hid hx
  have HI := Lib.hid fun W h k => Try.its_any x vn vm W h k
  have HW : Hid (∀ v' W, HasIns W v' vm x → x.name.size ≤ 100 → Calls Try.prog 28 #[insV x v' vm] W fun e w' => e = .returned (.bool (wellB nameQ x)) ∧ Below W.heap.size W w') := fun v' W h k => Try.rwell_calls nameQ Try.fhNB Try.fhKB x v' vm W h k
  obtain ⟨an, cn, rfl, _⟩ := hx.nodes.dat
  obtain ⟨am, cm, rfl, _⟩ := hx.matrix.dat
  unfold insV at HI HW ⊢
  unfold wellQ
  clear hx
  generalize wellB nameQ x = q at *
  obtain ⟨L, hL⟩ : ∃ L, x.nodes.length = L := ⟨_, rfl⟩
  rw [hL] at HX HI ⊢
  have HL := Lib.hid hL
  clear hL
  generalize x.matrix.length = M at *
  have HB0 := Lib.hid (InsBox.new w x (.slice an L cn) (.slice am M cm) 25)
  have HX0 := Lib.hid (HX.out.next (fbelow_box w (.cells #[.string x.name, .int .i64 x.kind, .int .i64 x.metric, .int .i64 x.scale, .int .i64 x.cap, .int .i64 x.fleet, .slice an L cn, .slice am M cm] 25)))
  have HR0 := Lib.hid (fbelow_box w (.cells #[.string x.name, .int .i64 x.kind, .int .i64 x.metric, .int .i64 x.scale, .int .i64 x.cap, .int .i64 x.fleet, .slice an L cn, .slice am M cm] 25))
  by_cases h1 : L ≤ 400
  · have k1 : (L : Int) ≤ 400 := by omega
    by_cases h2 : M ≤ 1000
    · have k2 : (M : Int) ≤ 1000 := by omega
      by_cases h3 : x.name.size ≤ 100
      · have k3 : (x.name.size : Int) ≤ 100 := by omega
        rw [decide_eq_true h1, decide_eq_true h2, decide_eq_true h3]
        simp only [Bool.and_true, Bool.true_and]
        have HI2 := Lib.hid (HI.out _ HX0.out (by omega))
        have HW2 := Lib.hid (fun v' W h => HW.out v' W h h3)
        clear HI HW h1 h2 h3
        go_enter Try.func11, Try.ntmps11
        go_wp2_with (first
          | (go_at_call 18; (with_reducible refine HI2.out.mono ?_); rintro e w1 ⟨v1, rfl, hv1, hb1⟩; have HV1 := Lib.hid hv1; have HX1 := Lib.hid (HW2.out v1 w1 hv1); clear hv1; obtain ⟨a1, n1, rfl⟩ : ∃ a n, v1 = .slice a L n := by
              obtain ⟨a1, n1, e1, _⟩ := HV1.out.nodes.dat; exact ⟨a1, n1, by rw [e1, HL.out]⟩)
          | (go_at_call 28; (with_reducible refine HX1.out.mono ?_); rintro e w2 ⟨rfl, hb2⟩))
        go_ret
        exact ⟨rfl, (HR0.out.trans (hb1.mono HR0.out.size)).trans (hb2.mono (HR0.out.trans (hb1.mono HR0.out.size)).size)⟩
      · have k3 : ¬ (x.name.size : Int) ≤ 100 := by omega
        rw [decide_eq_true h1, decide_eq_true h2, decide_eq_false h3]
        simp only [Bool.and_false, Bool.false_and]
        clear HI HW h1 h2 h3 HB0 HX0
        go_enter Try.func11, Try.ntmps11
        go_wp2
        go_ret
        exact ⟨rfl, HR0.out⟩
    · have k2 : ¬ (M : Int) ≤ 1000 := by omega
      rw [decide_eq_true h1, decide_eq_false h2]
      simp only [Bool.and_false, Bool.false_and]
      clear HI HW h1 h2 HB0 HX0
      go_enter Try.func11, Try.ntmps11
      go_wp2
      go_ret
      exact ⟨rfl, HR0.out⟩
  · have k1 : ¬ (L : Int) ≤ 400 := by omega
    rw [decide_eq_false h1]
    simp only [Bool.false_and]
    clear HI HW h1 HB0 HX0
    go_enter Try.func11, Try.ntmps11
    go_wp2
    go_ret
    exact ⟨rfl, HR0.out⟩
end Go.Proofs
/- Layer 11's law package: long. Conditions: routes that a slice can hold. -/
namespace Go.Proofs
open Go.RowKit Go.Plans
attribute [local go_sem] Oper.semAt_some
/-- Is a plan too much to look at? -/
def longQ (rr : Rts) : Bool := decide (200 < rr.length) || !(rr.all fun l => decide (l.length ≤ 300)) || decide (300 < many rr)
theorem flong_no {rr : Rts} (h : longQ rr = false) : rr.length ≤ 200 ∧ (∀ l ∈ rr, l.length ≤ 300) ∧ many rr ≤ 300 := by
  unfold longQ at h
  simp only [Bool.or_eq_false_iff, decide_eq_false_iff_not, Bool.not_eq_false', List.all_eq_true, decide_eq_true_eq] at h
  exact ⟨by omega, h.1.2, by omega⟩
theorem flong_big {rr : Rts} {l : List Int} {k : Nat} (h : rr[k]? = some l) (hl : 300 < l.length) : longQ rr = true := by
  have : (rr.all fun l => decide (l.length ≤ 300)) = false := List.all_eq_false.2 ⟨l, List.mem_of_getElem? h, by simp; omega⟩
  unfold longQ; rw [this]; simp
theorem flong_len {rr : Rts} (h : 200 < rr.length) : longQ rr = true := by unfold longQ; rw [decide_eq_true h]; rfl
theorem flong_end {rr : Rts} (h : ¬ 200 < rr.length) (ha : ∀ l ∈ rr, l.length ≤ 300) : longQ rr = decide (300 < many rr) := by
  have : (rr.all fun l => decide (l.length ≤ 300)) = true := List.all_eq_true.2 fun l hl => decide_eq_true (ha l hl)
  unfold longQ; rw [decide_eq_false h, this]; rfl
def allTo3 (rr : Rts) (k : Nat) : Prop := ∀ l ∈ rr.take k, l.length ≤ 300
theorem fmany_bnd (c : Nat) : ∀ (q : Rts), (∀ l ∈ q, l.length ≤ c) → many q ≤ q.length * c
  | [], _ => by simp [many]
  | a :: q, h => by
    have h1 := h a (List.mem_cons_self ..)
    have h2 := fmany_bnd c q (fun l hl => h l (List.mem_cons_of_mem _ hl))
    rw [many_cons, List.length_cons, Nat.succ_mul]; omega
theorem fmany_bound {rr : Rts} {k : Nat} (h : allTo3 rr k) : many (rr.take k) ≤ k * 300 := by
  have h1 := fmany_bnd 300 _ h
  rw [List.length_take] at h1
  exact Nat.le_trans h1 (Nat.mul_le_mul_right 300 (Nat.min_le_left k rr.length))
set_option maxRecDepth 100000 in
set_option maxHeartbeats 2000000 in
theorem Try.feasLong_calls (v : Value) (rr : Rts) (w : World) (hv : HasRts w v rr) :
    Calls Try.prog 12 #[planV v] w fun e w' => e = .returned (.bool (longQ rr)) ∧ Below w.heap.size w w' := by
  have HV := Lib.hid hv
  obtain ⟨ao, cap, rfl⟩ := hv.len
  have hmx : rr.length ≤ 9223372036854775807 := by
    rcases hv with ⟨rfl, _⟩ | ⟨_, _, _, _, h2, h3, _⟩
    · simp
    · unfold maxLen at h3; omega
  obtain ⟨n, hn⟩ : ∃ n, rr.length = n := ⟨_, rfl⟩
  rw [hn] at HV hmx ⊢
  have HN := Lib.hid hn
  have hb0 := (Below.refl _ w).alloc (Nat.le_refl _) (.cells #[.slice ao n cap] 28)
  have B0 := BoxAt.new w (.slice ao n cap) 28
  clear hv hn
  unfold planV
  go_enter Try.func12, Try.ntmps12
  go_wp2
  go_loopw [3, 4] (fun m i wr => ∃ k : Nat, k ≤ n ∧ k ≤ 220 ∧ m = .int .i64 (many (rr.take k) : Int) ∧ i = .int .i64 (k : Int) ∧ allTo3 rr k ∧ BoxAt wr w.heap.size (.slice ao n cap) ∧ Below w.heap.size w wr) (fun _ i _ => 220 - (intOf i).toNat)
  case atStart => exact ⟨0, Nat.zero_le _, Nat.zero_le _, rfl, rfl, by unfold allTo3; simp, B0, hb0⟩
  case round =>
    obtain ⟨k, hk, hk2, rfl, rfl, hA, hB, hW⟩ := hrel
    have HA := Lib.hid hA
    have HB := Lib.hid hB
    have HW := Lib.hid hW
    have b0 := hB.1
    have b1 := hB.2
    clear B0 hb0 hB hW hA
    by_cases hlt : k < n
    · have hki : (k : Int) < (n : Int) := by omega
      by_cases h220 : k < 220
      · have hk4 : (k : Int) < 220 := by omega
        obtain ⟨l, hp⟩ : ∃ l, rr[k]? = some l := ⟨_, List.getElem?_eq_getElem (by have := HN.out; omega)⟩
        obtain ⟨b, off, cap', u, hv, hbB, hbw, hc, hu⟩ := HV.out.get hp (Nat.le_refl _) HW.out
        have hbd := fmany_bound HA.out
        have hmt := many_take hp
        obtain ⟨ao2, cap2, rfl⟩ := hu.len
        injection hv with h1 h2 h3
        subst h1
        obtain ⟨M, hMM⟩ : ∃ M, many (rr.take k) = M := ⟨_, rfl⟩
        rw [hMM] at hmt hbd ⊢
        by_cases hbig : 300 < l.length
        · have hL := Lib.hid (flong_big hp hbig)
          obtain ⟨L, hLe⟩ : ∃ L, l.length = L := ⟨_, rfl⟩
          rw [hLe] at hbig hc
          have hbi : (300 : Int) < (L : Int) := by omega
          clear hp hu h2 h3 hmt hMM hLe
          go_wp2
          go_ret
          exact ⟨by rw [hL.out]; rfl, HW.out⟩
        · have hall : Hid (allTo3 rr (k + 1)) := by
            unfold Hid allTo3
            rw [List.take_add_one, hp]
            intro x hx
            rcases List.mem_append.1 hx with h | h
            · exact HA.out x h
            · rw [show x = l by simpa using h]; omega
          have HMT := Lib.hid hmt
          obtain ⟨L, hLe⟩ : ∃ L, l.length = L := ⟨_, rfl⟩
          rw [hLe] at hbig hc HMT
          have hbi : ¬ (300 : Int) < (L : Int) := by omega
          have hbi2 : (L : Int) ≤ 300 := by omega
          have hM2 : M ≤ 900000 := by omega
          clear hp hu h2 h3 hmt hMM hLe
          go_wp2
          exact ⟨⟨k + 1, by omega, by omega, by rw [HMT.out]; go_num, by go_num, hall.out, HB.out, HW.out⟩, by simp [intOf]; omega⟩
      · obtain rfl : k = 220 := by omega
        have hL := Lib.hid (flong_len (rr := rr) (by have := HN.out; omega))
        have h200 : (200 : Int) < (n : Int) := by omega
        obtain ⟨M, hMM⟩ : ∃ M, many (rr.take 220) = M := ⟨_, rfl⟩
        rw [hMM]
        clear hMM
        go_wp2
        go_ret
        exact ⟨by rw [hL.out]; rfl, HW.out⟩
    · obtain rfl : k = n := by omega
      have hT : rr.take k = rr := List.take_of_length_le (by have := HN.out; omega)
      have hAll : ∀ l ∈ rr, l.length ≤ 300 := by have h := HA.out; unfold allTo3 at h; rwa [hT] at h
      have hbd := fmany_bound HA.out
      rw [hT] at hbd ⊢
      by_cases h200 : 200 < k
      · have hL := Lib.hid (flong_len (rr := rr) (by have := HN.out; omega))
        have h4i : (200 : Int) < (k : Int) := by omega
        generalize many rr = M at *
        clear hT hAll
        go_wp2
        go_ret
        exact ⟨by rw [hL.out]; rfl, HW.out⟩
      · have hL := Lib.hid (flong_end (by have := HN.out; omega) hAll)
        have h4i : ¬ (200 : Int) < (k : Int) := by omega
        generalize many rr = M at *
        clear hT hAll
        by_cases hM : 300 < M
        · have hMi : (300 : Int) < (M : Int) := by omega
          have hL2 : Hid (longQ rr = true) := hL.out.trans (decide_eq_true hM)
          clear hL
          go_wp2
          go_ret
          exact ⟨by rw [hL2.out]; rfl, HW.out⟩
        · have hMi : ¬ (300 : Int) < (M : Int) := by omega
          have hL2 : Hid (longQ rr = false) := hL.out.trans (decide_eq_false hM)
          clear hL
          go_wp2
          go_ret
          exact ⟨by rw [hL2.out]; rfl, HW.out⟩
#print axioms Try.feasLong_calls
end Go.Proofs
/- What package feas answers, as the laws of layer 11 use it: four contracts, to be shown of the program. -/
namespace Go.Proofs
open Go.RowKit Go.Canon Go.Feas Go.Plans
structure Try.FeasC : Prop where
  check : ∀ (x : Ins) (vn vm v : Value) (rr : Rts) (W : World), HasIns W vn vm x → Fine x → rr.length ≤ 500 → many rr ≤ 2200 → HasRts W v rr →
    Calls Try.prog 14 #[insV x vn vm, planV v] W fun e w' => ∃ v', e = .returned v' ∧ HasWrs w' v' (checkW x rr) ∧ Below W.heap.size W w'
  feasible : ∀ (x : Ins) (vn vm v : Value) (rr : Rts) (W : World), HasIns W vn vm x → Fine x → rr.length ≤ 500 → many rr ≤ 2200 → HasRts W v rr →
    Calls Try.prog 19 #[insV x vn vm, planV v] W fun e w' => e = .returned (.bool (feasB x rr)) ∧ Below W.heap.size W w'
  loads : ∀ (x : Ins) (vn vm v : Value) (r : List Int) (W : World), HasIns W vn vm x → Fine x → r.length ≤ 2200 → HasInts W v r →
    Calls Try.prog 23 #[insV x vn vm, v] W fun e w' => ∃ v', e = .returned v' ∧ HasInts w' v' (loads x r) ∧ Below W.heap.size W w'
  times : ∀ (x : Ins) (vn vm v : Value) (r : List Int) (W : World), HasIns W vn vm x → Fine x → r.length ≤ 2200 → HasInts W v r →
    Calls Try.prog 20 #[insV x vn vm, v] W fun e w' => ∃ v', e = .returned (.tuple #[v', .bool (decide (lateI x r < 0))]) ∧ HasInts w' v' (timesL x r) ∧ Below W.heap.size W w'
/-- shown's instance, with a capacity of 5, and of 6. -/
def shownI (cap : Int) : Ins := ⟨⟨#[116]⟩, 3, 1, 0, cap, 1, [⟨0, 0, 0, 0, 20, 0, 0⟩, ⟨3, 4, 4, 7, 9, 1, 0⟩, ⟨0, 4, 2, 0, 20, 0, 0⟩], []⟩
theorem shown_check : checkW (shownI 5) [[1, 2]] = [(5, 0, 2)] := by decide +kernel
theorem shown_times : timesL (shownI 5) [1, 2] = [7, 11] := by decide +kernel
theorem shown_late : decide (lateI (shownI 5) [1, 2] < 0) = true := by decide +kernel
theorem shown_feas : feasB (shownI 6) [[1, 2]] = true := by decide +kernel
theorem shown_two : (checkW (shownI 6) []).length = 2 := by decide +kernel
theorem shown_well (cap : Int) (h : cap = 5 ∨ cap = 6) : Well nameQ (shownI cap) := by
  rcases h with rfl | rfl
  · exact well_iff.1 (by decide +kernel)
  · exact well_iff.1 (by decide +kernel)
theorem shown_fine (cap : Int) (h : cap = 5 ∨ cap = 6) : Fine (shownI cap) := fine_of (shown_well cap h)
end Go.Proofs
