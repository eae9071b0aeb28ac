/- The law FixedNoughts at every four integers, as a contract. Conditions: the table of powers of ten holds what the card lays. -/
import Derived.Test.YtfhjndldiggchaaDoorLawNoughts
namespace Go.Fx
open Go.Proofs
theorem text_nought (m : Int) (s i k : Nat) : (if m < 0 then [45] else []) ++ (List.replicate i 48 ++ (printN (m.natAbs : Int) s ++ (if s = 0 then [46] else [])) ++ List.replicate k 48) = nought m s i k := by
  rw [print_point]; unfold nought; simp
theorem tdiv_small {m M : Int} (h : m.tdiv 32 = M) (h1 : -2147483648 ≤ m) (h2 : m ≤ 2147483647) : -67108864 ≤ M ∧ M ≤ 67108864 := by
  rcases tdiv_cases m 32 with ⟨_, e, _⟩ | ⟨_, e, _⟩ <;> omega
end Go.Fx
namespace Go.Proofs
open Go.RowKit Go.Fx

theorem Tryd.read_small (L : List UInt8) (M : Int) (S : Nat) (hl : L.length ≤ 1000) (h : readN L = chkL (least S M)) (ha : M.natAbs ≤ 67108864) (W : World) :
    Calls Tryd.prog 13 #[.string ⟨L.toArray⟩] W fun e w' => e = .returned (.tuple #[.agg #[.int .i64 (least S M).1, .int .i64 ((least S M).2 : Int)], .int .i64 0]) ∧ Below W.heap.size W w' := by
  have := Tryd.Read_any L (by omega) W
  rw [h, chk_small M S ha] at this
  exact this
theorem Tryd.FixedNoughts_calls (m s x y : Int) (hm : -2147483648 ≤ m) (hm2 : m ≤ 2147483647) (hs : 0 ≤ s) (hs2 : s ≤ 255) (hx : 0 ≤ x) (hx2 : x ≤ 255) (hy : 0 ≤ y) (hy2 : y ≤ 255) (w : World) (ht : Tab w) :
    Calls Tryd.prog 8 #[.int .i32 m, .int .u8 s, .int .u8 x, .int .u8 y] w fun e w' => e = .returned (.bool true) ∧ Below w.heap.size w w' := by
  obtain ⟨M, hM⟩ : ∃ M, m.tdiv 32 = M := ⟨_, rfl⟩
  obtain ⟨M1, M2⟩ := tdiv_small hM hm hm2
  obtain ⟨S, hS⟩ : ∃ S : Nat, s % 4 = (S : Int) := ⟨(s % 4).toNat, by omega⟩
  obtain ⟨A, hA⟩ : ∃ A : Nat, x % 4 = (A : Int) := ⟨(x % 4).toNat, by omega⟩
  obtain ⟨B, hB⟩ : ∃ B : Nat, y % 3 = (B : Int) := ⟨(y % 3).toNat, by omega⟩
  have hS3 : S ≤ 3 := by omega
  have hA3 : A ≤ 3 := by omega
  have hB2 : B ≤ 2 := by omega
  have ha : M.natAbs ≤ 67108864 := by omega
  have hT := text_nought M S A (1 + B)
  have hN := nought_read M S A (1 + B) hS3 hA3 (by omega) (by omega) ha
  have hl1 := print_short M S (by omega) (by omega)
  have hl2 := print_short (M.natAbs : Int) S (by omega) (by omega)
  have hP := print_read M S hS3 ha
  have hmay1 : mayB M S = true := mayB_mk (by omega) (by omega) (by omega) (by omega)
  have hmay2 : mayB (M.natAbs : Int) S = true := mayB_mk (by omega) (by omega) (by omega) (by omega)
  have GP1 : ∀ W, Tab W → Calls Tryd.prog 16 #[.agg #[.int .i64 M, .int .i64 (S : Int)]] W fun e w' => e = .returned (.string ⟨(printN M S).toArray⟩) ∧ Below W.heap.size W w' := fun W h => Tryd.Print_any M S hmay1 W h
  have GP2 : ∀ W, Tab W → Calls Tryd.prog 16 #[.agg #[.int .i64 (M.natAbs : Int), .int .i64 (S : Int)]] W fun e w' => e = .returned (.string ⟨(printN (M.natAbs : Int) S).toArray⟩) ∧ Below W.heap.size W w' := fun W h => Tryd.Print_any _ S hmay2 W h
  have GR1 := fun W => Tryd.read_small (printN M S) M S (by omega) hP ha W
  have hlen : ((if M < 0 then [45] else []) ++ (List.replicate A 48 ++ (printN (M.natAbs : Int) S ++ (if S = 0 then [46] else [])) ++ List.replicate (1 + B) (48 : UInt8))).length ≤ 1000 := by
    have h1 : (if M < 0 then [(45 : UInt8)] else []).length ≤ 1 := by split <;> simp
    have h2 : (if S = 0 then [(46 : UInt8)] else []).length ≤ 1 := by split <;> simp
    simp only [List.length_append, List.length_replicate]
    omega
  rw [← hT] at hN
  have GR2 := fun W => Tryd.read_small _ M S hlen hN ha W
  have GL : ∀ W, Calls Tryd.prog 18 #[.agg #[.int .i64 M, .int .i64 (S : Int)]] W fun e w' => e = .returned (.agg #[.int .i64 (least S M).1, .int .i64 ((least S M).2 : Int)]) ∧ Below W.heap.size W w' := fun W => Tryd.Least_any M S (by omega) (by omega) (by omega) W
  clear hT hN hlen hP hmay1 hmay2
  generalize printN M S = L1 at *
  generalize printN (M.natAbs : Int) S = L2 at *
  generalize (least S M).1 = l at *
  generalize ((least S M).2 : Int) = N at *
  by_cases hneg : M < 0
  · obtain ⟨n, rfl⟩ : ∃ n : Nat, M = -(n : Int) := ⟨M.natAbs, by omega⟩
    rw [if_pos hneg] at GR2
    simp only [Int.natAbs_neg, Int.natAbs_natCast] at GP2 ha
    have e45 : ∀ X : List UInt8, (⟨#[45]⟩ : ByteArray) ++ ⟨X.toArray⟩ = ⟨([45] ++ X).toArray⟩ := fun X => cat [45] X
    by_cases h0 : S = 0
    · subst h0
      rw [if_pos rfl] at GR2
      exact Tryd.Noughts_neg0 m s x y l N n A B L1 L2 hM hS hA hB ha (by omega) hm hm2 hs hs2 hx hx2 hy hy2 hA3 hl2 GP1 GP2 GR1 (by rw [e45]; exact GR2) GL w ht
    · rw [if_neg h0, List.append_nil] at GR2
      exact Tryd.Noughts_neg m s x y l N n S A B L1 L2 hM hS hA hB ha (by omega) (by omega) hm hm2 hs hs2 hx hx2 hy hy2 hA3 hl2 GP1 GP2 GR1 (by rw [e45]; exact GR2) GL w ht
  · obtain ⟨n, rfl⟩ : ∃ n : Nat, M = (n : Int) := ⟨M.natAbs, by omega⟩
    rw [if_neg hneg, List.nil_append] at GR2
    simp only [Int.natAbs_natCast] at GP2 ha
    by_cases h0 : S = 0
    · subst h0
      rw [if_pos rfl] at GR2
      exact Tryd.Noughts_pos0 m s x y l N n A B L1 L2 hM hS hA hB ha hm hm2 hs hs2 hx hx2 hy hy2 hA3 hl2 GP1 GP2 GR1 GR2 GL w ht
    · rw [if_neg h0, List.append_nil] at GR2
      exact Tryd.Noughts_pos m s x y l N n S A B L1 L2 hM hS hA hB ha (by omega) hm hm2 hs hs2 hx hx2 hy hy2 hA3 hl2 GP1 GP2 GR1 GR2 GL w ht
#print axioms Tryd.FixedNoughts_calls
end Go.Proofs
