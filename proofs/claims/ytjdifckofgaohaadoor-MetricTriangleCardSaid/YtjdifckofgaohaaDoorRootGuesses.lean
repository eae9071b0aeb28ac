/- The iterator root.guesses of this program: it tells the guesses at a root, in their order. Conditions: a number that an int can be, 0 at least. -/
import Derived.Test.YtjdifckofgaohaaDoorSeq
import Derived.Test.YtjdifckofgaohaaDoorRootPlain
import Derived.Test.YtjdifckofgaohaaDoorShelf
import Derived.Shelf.Abstract
import Derived.Shelf.RegionOpen
import Derived.WalkKit
import Derived.OwnWalkIn
import Derived.TacticsInMore
import Derived.LoopNIn
import Derived.LoopIn
import Derived.Lib.OthersKept
import Derived.Lib.Hide
namespace Go.Proofs
open Go.RowKit Go.Shelf Go.Root

attribute [local go_sem] Oper.semAt_some

def guessV (g : Nat) : Array Value := #[.int .i64 (g : Int)]
def guessesV (n : Nat) : List (Array Value) := (guesses n).map guessV
/-- The number that a value is. -/
def nv : Value → Nat
  | .int _ z => z.toNat
  | _ => 0

theorem Tryd.guesses_calls (n : Int) (w : World) :
    Calls Tryd.prog 43 #[.int .i64 n] w fun e w' => e = .returned (.func (.func 44) #[] #[.pointer (some ⟨w.heap.size, 0, none⟩)]) ∧ w' = w.alloc (.cells #[.int .i64 n] 3) := by
  go_enter Tryd.func43, Tryd.ntmps43
  go_wp2
  go_ret
  exact ⟨rfl, rfl⟩

theorem first_wrap {n : Nat} (h : n ≤ 9223372036854775807) : wrap64 (2 ^ ((Lib.bitLen n + 1) / 2)) = ((first n : Nat) : Int) := by
  have h1 := first_le h
  have h2 : (2 : Int) ^ ((Lib.bitLen n + 1) / 2) = ((first n : Nat) : Int) := by simp [first]
  rw [h2]
  unfold wrap64
  omega
theorem tdiv_of (a b : Nat) : (a : Int).tdiv (b : Int) = ((a / b : Nat) : Int) := by
  rw [Int.tdiv_eq_ediv_of_nonneg (by omega)]; rfl
theorem drop_next {α : Type} {l r : List α} {x : α} {k : Nat} (h : l.drop k = x :: r) : l[k]? = some x ∧ l.drop (k + 1) = r := by
  constructor
  · rw [← List.head?_drop, h]; rfl
  · rw [← List.drop_drop, h]; rfl

set_option maxRecDepth 100000 in
set_option maxHeartbeats 1000000 in
theorem Tryd.guesses1_seq (T : Nat → TypeId → Bool) (Bs n : Nat) (w : World) (hn : n ≤ 9223372036854775807) (hT : T Bs 3 = true) (hB : Bs < w.heap.size) (hbox : Boxed w Bs 3 (.int .i64 (n : Int))) :
    Seq T Tryd.prog 44 #[.pointer (some ⟨Bs, 0, none⟩)] (guessesV n) w := by
  intro l J Jx W hW hJ hJx hY h0
  have hbW : Boxed W Bs 3 (.int .i64 (n : Int)) := (hW.block Bs hB).trans hbox
  have hcW := hbW.cell
  refine (callsIn_wide (n := 0)).1 (callsIn_of_wp Tryd.func44 rfl trivial ?_ rfl)
  simp only [Tryd.ntmps44, List.size_toArray, List.length_cons, List.length_nil, Nat.reduceAdd, Nat.reduceSub, Array.replicate_succ, Array.replicate_zero, List.push_toArray, List.append_toArray, List.nil_append, List.cons_append]
  by_cases hz : n = 0
  · subst hz
    gi_wp2
    exact bodyPost_ret (results_none rfl _ _ _) rfl ⟨⟨_, rfl⟩, .inl h0⟩
  · have hlt : decide ((n : Int) < 1) = false := decide_eq_false (by omega)
    have hL := bitLen_most hn
    have hf := first_wrap hn
    have hw1 : IntKind.u64.wrap (n : Int) = (n : Int) := IntWalk.u64_in _ (by omega)
    gi_wp2_with (refine ⟨trivial, rfl, ?_⟩; gi_at_call 45; refine (callsIn_wide.2 (Tryd.bits_Len _ _ (by omega) (by omega))).mono ?_; rintro e w' ⟨rfl, hw2⟩; obtain rfl : W = w' := hw2.symm)
    gi_loopw [3] (fun v wr => ∃ (g k f : Nat), v = .int .i64 (g : Int) ∧ 0 < g ∧ g ≤ 4294967296 ∧ g ≤ f ∧ Boxed wr Bs 3 (.int .i64 (n : Int)) ∧ (guesses n).drop k = guessed n f g ∧ J k wr)
      (fun v wr => nv v)
    case atStart =>
      exact ⟨first n, 0, first n, by simp only [hf], first_pos n, first_le hn, Nat.le_refl _, hbW, by simp [guesses, hz], h0⟩
    case round =>
      obtain ⟨g, k, f, rfl, hg, hgm, hgf, hbox1, hdrop, hj⟩ := hrel
      have hcell := hbox1.cell
      obtain ⟨f, rfl⟩ : ∃ c, f = c + 1 := ⟨f - 1, by omega⟩
      simp only [guessed] at hdrop
      obtain ⟨hx, hdrop'⟩ := drop_next hdrop
      have hx' : (guessesV n)[k]? = some (guessV g) := by simp [guessesV, hx]
      have hne : ((g : Int) == 0) = false := beq_eq_false_iff_ne.2 (by omega)
      have hq := tdiv_of n g
      have hqm : n / g ≤ n := Nat.div_le_self _ _
      obtain ⟨q, hqq⟩ : ∃ q, q = n / g := ⟨_, rfl⟩
      rw [← hqq] at hq hqm hdrop'
      have hy := hY k _ _ hx' hj
      obtain ⟨fn, tmps, assign, body, hy, hR⟩ := hy
      by_cases hc : q < g
      · rw [if_pos hc] at hdrop'
        have Hx := Lib.hid hdrop'
        have hc' : decide ((q : Int) < (g : Int)) = true := decide_eq_true (by omega)
        clear hY hdrop hx hx' hdrop' hJx hf
        simp only [guessV] at hy
        gi_wp2
        refine ⟨rfl, hR.mono ?_⟩
        rintro e W3 ⟨hrf, (⟨rfl, hJ3⟩ | ⟨rfl, hJx3⟩)⟩
        · have hbox3 := hrf.boxed hbox1 hT
          have hcell3 := hbox3.cell
          gi_wp2
          go_roundw
          case rel => exact ⟨(g + q) / 2, k + 1, f, by rw [hqq]; go_num, by rw [hqq]; exact half_ge (r := 1) (by omega) hg, by omega, by omega, hbox3, Hx.out, hJ3⟩
          case measure =>
            have hqi : (n : Int) / (g : Int) = (q : Int) := by rw [hqq]; rfl
            show ((((g : Int) + (n : Int) / (g : Int)) / 2).toNat) < ((g : Int).toNat)
            rw [hqi]
            omega
        · gi_wp2
          go_end0
          exact ⟨⟨_, rfl⟩, .inr hJx3⟩
      · rw [if_neg hc] at hdrop'
        have hlen : (guessesV n).length = k + 1 := by
          have h1 := congrArg List.length hdrop'
          have h2 := (List.getElem?_eq_some_iff.1 hx').1
          simp [guessesV] at h1 h2 ⊢
          omega
        have Hl := Lib.hid hlen
        have hc' : decide ((q : Int) < (g : Int)) = false := decide_eq_false (by omega)
        clear hY hdrop hx hx' hdrop' hlen hJx hf
        simp only [guessV] at hy
        gi_wp2
        refine ⟨rfl, hR.mono ?_⟩
        rintro e W3 ⟨hrf, (⟨rfl, hJ3⟩ | ⟨rfl, hJx3⟩)⟩
        · have hbox3 := hrf.boxed hbox1 hT
          have hcell3 := hbox3.cell
          gi_wp2
          go_end0
          rw [Hl.out]
          exact ⟨⟨_, rfl⟩, .inl hJ3⟩
        · gi_wp2
          go_end0
          exact ⟨⟨_, rfl⟩, .inr hJx3⟩
#print axioms Tryd.guesses1_seq
end Go.Proofs
