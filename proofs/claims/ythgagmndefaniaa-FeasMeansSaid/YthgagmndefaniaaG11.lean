/- The iterator root.guesses of this program: it tells the guesses at a root, in their order. Conditions: a number that an int can be, 0 at least. -/
import Derived.Test.YthgagmndefaniaaG10
import Derived.Test.YthgagmndefaniaaG07
import Derived.Test.YthgagmndefaniaaShelf
import Derived.Shelf.Abstract
import Derived.Shelf.RegionOpen
import Derived.WalkKit
import Derived.OwnWalkIn
import Derived.TacticsInMore
import Derived.LoopNIn
import Derived.LoopIn
import Derived.Lib.OthersKept
import Derived.Lib.Hide
import Derived.Test.YthgagmndefaniaaG09
import Derived.Laws.EntriesVeiled
import Derived.Deep.QuietTactic
import Derived.BigQuiet
namespace Go.Proofs
open Go.RowKit Go.Shelf Go.Root

attribute [local go_sem] Oper.semAt_some

def guessV (g : Nat) : Array Value := #[.int .i64 (g : Int)]
def guessesV (n : Nat) : List (Array Value) := (guesses n).map guessV
/-- The number that a value is. -/
def nv : Value → Nat
  | .int _ z => z.toNat
  | _ => 0

theorem Try.guesses_calls (n : Int) (w : World) :
    Calls Try.prog 107 #[.int .i64 n] w fun e w' => e = .returned (.func (.func 108) #[] #[.pointer (some ⟨w.heap.size, 0, none⟩)]) ∧ w' = w.alloc (.cells #[.int .i64 n] 3) := by
  go_enter Try.func107, Try.ntmps107
  go_wp2
  go_ret
  exact ⟨rfl, rfl⟩

theorem first_wrap {n : Nat} (h : n ≤ 9223372036854775807) : wrap64 (2 ^ ((Lib.bitLen n + 1) / 2)) = ((first n : Nat) : Int) := by
  have h1 := first_le h
  have h2 : (2 : Int) ^ ((Lib.bitLen n + 1) / 2) = ((first n : Nat) : Int) := by simp [first]
  rw [h2]
  unfold wrap64
  omega
theorem tdiv_of (a b : Nat) : (a : Int).tdiv (b : Int) = ((a / b : Nat) : Int) := by
  rw [Int.tdiv_eq_ediv_of_nonneg (by omega)]; rfl
theorem drop_next {α : Type} {l r : List α} {x : α} {k : Nat} (h : l.drop k = x :: r) : l[k]? = some x ∧ l.drop (k + 1) = r := by
  constructor
  · rw [← List.head?_drop, h]; rfl
  · rw [← List.drop_drop, h]; rfl

set_option maxRecDepth 100000 in
set_option maxHeartbeats 1000000 in
theorem Try.guesses1_seq (T : Nat → TypeId → Bool) (Bs n : Nat) (w : World) (hn : n ≤ 9223372036854775807) (hT : T Bs 3 = true) (hB : Bs < w.heap.size) (hbox : Boxed w Bs 3 (.int .i64 (n : Int))) :
    Seq T Try.prog 108 #[.pointer (some ⟨Bs, 0, none⟩)] (guessesV n) w := by
  intro l J Jx W hW hJ hJx hY h0
  have hbW : Boxed W Bs 3 (.int .i64 (n : Int)) := (hW.block Bs hB).trans hbox
  have hcW := hbW.cell
  refine (callsIn_wide (n := 0)).1 (callsIn_of_wp Try.func108 rfl trivial ?_ rfl)
  simp only [Try.ntmps108, List.size_toArray, List.length_cons, List.length_nil, Nat.reduceAdd, Nat.reduceSub, Array.replicate_succ, Array.replicate_zero, List.push_toArray, List.append_toArray, List.nil_append, List.cons_append]
  by_cases hz : n = 0
  · subst hz
    gi_wp2
    exact bodyPost_ret (results_none rfl _ _ _) rfl ⟨⟨_, rfl⟩, .inl h0⟩
  · have hlt : decide ((n : Int) < 1) = false := decide_eq_false (by omega)
    have hL := bitLen_most hn
    have hf := first_wrap hn
    have hw1 : IntKind.u64.wrap (n : Int) = (n : Int) := IntWalk.u64_in _ (by omega)
    gi_wp2_with (refine ⟨trivial, rfl, ?_⟩; gi_at_call 109; refine (callsIn_wide.2 (Try.bits_Len _ _ (by omega) (by omega))).mono ?_; rintro e w' ⟨rfl, hw2⟩; obtain rfl : W = w' := hw2.symm)
    gi_loopw [3] (fun v wr => ∃ (g k f : Nat), v = .int .i64 (g : Int) ∧ 0 < g ∧ g ≤ 4294967296 ∧ g ≤ f ∧ Boxed wr Bs 3 (.int .i64 (n : Int)) ∧ (guesses n).drop k = guessed n f g ∧ J k wr)
      (fun v wr => nv v)
    case atStart =>
      exact ⟨first n, 0, first n, by simp only [hf], first_pos n, first_le hn, Nat.le_refl _, hbW, by simp [guesses, hz], h0⟩
    case round =>
      obtain ⟨g, k, f, rfl, hg, hgm, hgf, hbox1, hdrop, hj⟩ := hrel
      have hcell := hbox1.cell
      obtain ⟨f, rfl⟩ : ∃ c, f = c + 1 := ⟨f - 1, by omega⟩
      simp only [guessed] at hdrop
      obtain ⟨hx, hdrop'⟩ := drop_next hdrop
      have hx' : (guessesV n)[k]? = some (guessV g) := by simp [guessesV, hx]
      have hne : ((g : Int) == 0) = false := beq_eq_false_iff_ne.2 (by omega)
      have hq := tdiv_of n g
      have hqm : n / g ≤ n := Nat.div_le_self _ _
      obtain ⟨q, hqq⟩ : ∃ q, q = n / g := ⟨_, rfl⟩
      rw [← hqq] at hq hqm hdrop'
      have hy := hY k _ _ hx' hj
      obtain ⟨fn, tmps, assign, body, hy, hR⟩ := hy
      by_cases hc : q < g
      · rw [if_pos hc] at hdrop'
        have Hx := Lib.hid hdrop'
        have hc' : decide ((q : Int) < (g : Int)) = true := decide_eq_true (by omega)
        clear hY hdrop hx hx' hdrop' hJx hf
        simp only [guessV] at hy
        gi_wp2
        refine ⟨rfl, hR.mono ?_⟩
        rintro e W3 ⟨hrf, (⟨rfl, hJ3⟩ | ⟨rfl, hJx3⟩)⟩
        · have hbox3 := hrf.boxed hbox1 hT
          have hcell3 := hbox3.cell
          gi_wp2
          go_roundw
          case rel => exact ⟨(g + q) / 2, k + 1, f, by rw [hqq]; go_num, by rw [hqq]; exact half_ge (r := 1) (by omega) hg, by omega, by omega, hbox3, Hx.out, hJ3⟩
          case measure =>
            have hqi : (n : Int) / (g : Int) = (q : Int) := by rw [hqq]; rfl
            show ((((g : Int) + (n : Int) / (g : Int)) / 2).toNat) < ((g : Int).toNat)
            rw [hqi]
            omega
        · gi_wp2
          go_end0
          exact ⟨⟨_, rfl⟩, .inr hJx3⟩
      · rw [if_neg hc] at hdrop'
        have hlen : (guessesV n).length = k + 1 := by
          have h1 := congrArg List.length hdrop'
          have h2 := (List.getElem?_eq_some_iff.1 hx').1
          simp [guessesV] at h1 h2 ⊢
          omega
        have Hl := Lib.hid hlen
        have hc' : decide ((q : Int) < (g : Int)) = false := decide_eq_false (by omega)
        clear hY hdrop hx hx' hdrop' hlen hJx hf
        simp only [guessV] at hy
        gi_wp2
        refine ⟨rfl, hR.mono ?_⟩
        rintro e W3 ⟨hrf, (⟨rfl, hJ3⟩ | ⟨rfl, hJx3⟩)⟩
        · have hbox3 := hrf.boxed hbox1 hT
          have hcell3 := hbox3.cell
          gi_wp2
          go_end0
          rw [Hl.out]
          exact ⟨⟨_, rfl⟩, .inl hJ3⟩
        · gi_wp2
          go_end0
          exact ⟨⟨_, rfl⟩, .inr hJx3⟩
#print axioms Try.guesses1_seq
end Go.Proofs
/- root.Floor of this program: the root of a number, rounded down. Conditions: a number that an int can be, 0 at least. -/
namespace Go.Root
/-- The guess that stands last among the first k. -/
def lastOf (n k : Nat) : Nat := ((guesses n).take k).getLast?.getD 0
theorem lastOf_zero (n : Nat) : lastOf n 0 = 0 := by simp [lastOf]
theorem lastOf_next {n k g : Nat} (h : (guesses n)[k]? = some g) : lastOf n (k + 1) = g := by
  obtain ⟨hk, he⟩ := List.getElem?_eq_some_iff.1 h
  simp [lastOf, List.take_add_one, h]
theorem lastOf_all (n : Nat) : lastOf n (guesses n).length = rt n := by simp [lastOf, rt]
end Go.Root
namespace Go.Proofs
open Go.RowKit Go.Shelf Go.Root
attribute [local go_sem] Oper.semAt_some

theorem guessesV_get {n k : Nat} {x : Array Value} (h : (guessesV n)[k]? = some x) : ∃ g : Nat, x = #[.int .i64 (g : Int)] ∧ (guesses n)[k]? = some g := by
  simp only [guessesV, List.getElem?_map, Option.map_eq_some_iff] at h
  obtain ⟨g, hp, rfl⟩ := h
  exact ⟨g, rfl, hp⟩

set_option maxRecDepth 100000 in
set_option maxHeartbeats 1000000 in
theorem Try.Floor_calls (n : Nat) (w : World) (hn : n ≤ 9223372036854775807) :
    Calls Try.prog 102 #[.int .i64 (n : Int)] w fun e w' => e = .returned (.int .i64 (rt n : Int)) ∧ Below w.heap.size w w' := by
  refine (callsIn_wide (n := 0)).1 (callsIn_of_wp_marks Try.func102 rfl trivial ?_ rfl)
  simp only [Try.ntmps102, List.size_toArray, List.length_cons, List.length_nil, Nat.reduceAdd, Nat.reduceSub, Array.replicate_succ, Array.replicate_zero, List.push_toArray, List.append_toArray, List.nil_append, List.cons_append]
  gi_wp2_with (refine ⟨trivial, rfl, ?_⟩; gi_at_call 107; refine (callsIn_wide.2 (Try.guesses_calls _ _)).mono ?_; rintro e w' ⟨rfl, rfl⟩)
  obtain ⟨V, hV⟩ : ∃ V, V = (w.alloc (Obj.cells #[Value.int IntKind.i64 0] 3)).alloc (Obj.cells #[Value.int IntKind.i64 (n : Int)] 3) := ⟨_, rfl⟩
  have hVs : V.heap.size = w.heap.size + 1 + 1 := by rw [hV]; simp
  have b0 : Boxed V w.heap.size 3 (.int .i64 0) := by rw [hV]; exact (Boxed.new w 3 _).alloc _
  have b1 : Boxed V (w.heap.size + 1) 3 (.int .i64 (n : Int)) := by rw [hV]; exact Boxed.at 3 _ (by simp)
  have hB : Below w.heap.size w V := by rw [hV]; exact ((Below.refl _ w).alloc (Nat.le_refl _) _).alloc (by simp) _
  rw [← hV]
  clear hV
  refine range_seq (T := fun k _ => k == w.heap.size + 1) (gf := 108) (lb := #[.pointer (some ⟨w.heap.size + 1, 0, none⟩)]) rfl (enters_of Try.func108 (by kernel_rfl) rfl)
    (Try.guesses1_seq _ _ n V hn (by simp) (by omega) b1) (Below.refl _ _) (fun k x h => by obtain ⟨g, rfl, _⟩ := guessesV_get h; rfl)
    (fun k W => Boxed W w.heap.size 3 (.int .i64 (lastOf n k : Nat)) ∧ Below w.heap.size w W)
    (fun _ _ => False)
    (fun k X Y row h hg hr => ⟨h.1.own hg hr, h.2.own (Nat.le_refl _) hg (by omega) hr⟩)
    (fun c _ X Y row h hg hr => h)
    ⟨by rw [lastOf_zero]; exact b0, hB⟩
    (fun x a' _ => a' = { tmps := #[.int .i64 (n : Int), undef, .int .i64 0, .pointer (some ⟨w.heap.size, 0, none⟩), x[0]!, .int .i64 (n : Int), .func (.func 108) #[] #[.pointer (some ⟨w.heap.size + 1, 0, none⟩)], x[0]!, undef, undef], defers := [] })
    (fun _ _ _ _ _ _ h _ _ => h) ?assign ?body ?done ?stop
  case assign =>
    intro l k x W K hx hi hK
    obtain ⟨g, rfl, hx⟩ := guessesV_get hx
    gi_wp2
    exact hK _ _ (RF.refl _) hi rfl
  case body =>
    rintro l k x a' W hx0 ⟨c0, hB1⟩ rfl
    obtain ⟨g, rfl, hx⟩ := guessesV_get hx0
    clear hx0
    have hc0 := c0.cell
    have hf0 := c0.frozen
    simp only [List.getElem!_toArray, List.getElem!_cons_zero]
    gi_wp2
    refine ⟨(RF.refl _).set c0 (by simp) _, ?_, hB1.setCell (p := ⟨w.heap.size, 0, none⟩) (Nat.le_refl _) _⟩
    rw [lastOf_next hx]
    exact c0.set _
  case done =>
    rintro D W hD ⟨c0, hB1⟩ hK
    have hl : (guessesV n).length = (guesses n).length := by simp [guessesV]
    rw [hl, lastOf_all] at c0
    have hc0 := c0.cell
    have hf0 := c0.frozen
    gi_wp2
    refine ⟨by simp, .inl ⟨_, _, rfl, run_takeDeferred hK, ?_⟩⟩
    exact ⟨.int .i64 (rt n : Int), by simp [results, Try.results102, go_sem], rfl, hB1.put (Nat.le_refl _) (by omega)⟩
  case stop =>
    rintro D c W hD h hK
    exact h.elim
#print axioms Try.Floor_calls
end Go.Proofs
/- root.Near, root.Down and root.Ceil of this program: roots of quotients, rounded. Conditions: n of 0 to 8 * 10^16, d of 1 to 10^6, m and k of 1 to 10. -/
namespace Go.Proofs
open Go.RowKit Go.Shelf Go.Root
attribute [local go_sem] Oper.semAt_some

/-- The same, at a number however it is told. -/
theorem Try.Floor_at (x : Int) (n : Nat) (w : World) (hx : x = (n : Int)) (hn : n ≤ 9223372036854775807) :
    Calls Try.prog 102 #[.int .i64 x] w fun e w' => e = .returned (.int .i64 (rt n : Int)) ∧ Below w.heap.size w w' := by
  subst hx; exact Try.Floor_calls n w hn

theorem most_of {n : Nat} (h : n ≤ 80000000000000000) : 4 * n ≤ 9223372036854775807 := by omega
theorem times_of {n m : Nat} (h : n ≤ 80000000000000000) (hm : m ≤ 10) : m * m * n ≤ 8000000000000000000 := by
  have h1 : m * m ≤ 100 := sq_le hm
  have := Nat.mul_le_mul h1 h
  omega

/-- A number that has room stays as it is. -/
theorem wrap_nat {x : Int} {n : Nat} (h : x = (n : Int)) (hn : n ≤ 9223372036854775807) : wrap64 x = (n : Int) := by
  subst h; unfold wrap64; omega

set_option maxRecDepth 100000 in
set_option maxHeartbeats 1000000 in
theorem Try.Near_calls (n d : Nat) (w : World) (hn : n ≤ 80000000000000000) (hd : 1 ≤ d) (hd9 : d ≤ 1000000) :
    Calls Try.prog 90 #[.int .i64 (n : Int), .int .i64 (d : Int)] w fun e w' => e = .returned (.int .i64 (near n d : Int)) ∧ Below w.heap.size w w' := by
  have hlt : decide ((d : Int) < 1) = false := decide_eq_false (by omega)
  have hne : ((d : Int) == 0) = false := beq_eq_false_iff_ne.2 (by omega)
  have hr := rt_most (most_of hn)
  have hF := fun (x : Int) (w : World) hx => Try.Floor_at x (4 * n) w hx (most_of hn)
  have hR : near n d = (rt (4 * n) / d + 1) / 2 := rfl
  obtain ⟨r, hrr⟩ : ∃ r, rt (4 * n) = r := ⟨_, rfl⟩
  rw [hrr] at hr hR
  simp only [hrr] at hF
  clear hrr
  have hq : r / d ≤ r := Nat.div_le_self _ _
  have hw : wrap64 ((r : Int) / (d : Int)) = ((r / d : Nat) : Int) := wrap_nat (by simp) (by omega)
  obtain ⟨q, hqq⟩ : ∃ q, q = r / d := ⟨_, rfl⟩
  rw [← hqq] at hq hR hw
  clear hqq
  go_enter Try.func90, Try.ntmps90
  go_wp2_with (go_at_call 102; refine (hF _ _ (by omega)).mono ?_; rintro e w' ⟨rfl, hb⟩)
  go_ret
  exact ⟨by rw [hR]; go_num, hb⟩

set_option maxRecDepth 100000 in
set_option maxHeartbeats 1000000 in
theorem Try.Down_calls (n m d : Nat) (w : World) (hn : n ≤ 80000000000000000) (hm9 : m ≤ 10) (hd : 1 ≤ d) (hd9 : d ≤ 1000000) :
    Calls Try.prog 98 #[.int .i64 (n : Int), .int .i64 (m : Int), .int .i64 (d : Int)] w fun e w' => e = .returned (.int .i64 (down n m d : Int)) ∧ Below w.heap.size w w' := by
  have hlt : decide ((d : Int) < 1) = false := decide_eq_false (by omega)
  have hne : ((d : Int) == 0) = false := beq_eq_false_iff_ne.2 (by omega)
  have ht := times_of hn hm9
  have hm2 : m * m ≤ 100 := sq_le hm9
  have hr := rt_most (n := m * m * n) (by omega)
  have hF := fun (x : Int) (w : World) hx => Try.Floor_at x (m * m * n) w hx (by omega)
  have hR : down n m d = rt (m * m * n) / d := rfl
  have hc1 : wrap64 ((m : Int) * (m : Int)) = ((m * m : Nat) : Int) := wrap_nat (by simp) (by omega)
  have hc2 : wrap64 (((m * m : Nat) : Int) * (n : Int)) = ((m * m * n : Nat) : Int) := wrap_nat (by simp) (by omega)
  obtain ⟨r, hrr⟩ : ∃ r, rt (m * m * n) = r := ⟨_, rfl⟩
  rw [hrr] at hr hR
  simp only [hrr] at hF
  clear hrr
  obtain ⟨x, hx⟩ : ∃ x, m * m * n = x := ⟨_, rfl⟩
  rw [hx] at hF hc2 ht
  obtain ⟨y, hy⟩ : ∃ y, m * m = y := ⟨_, rfl⟩
  rw [hy] at hc1 hc2 hm2
  clear hx hy
  have hq : r / d ≤ r := Nat.div_le_self _ _
  have hw : wrap64 ((r : Int) / (d : Int)) = ((r / d : Nat) : Int) := wrap_nat (by simp) (by omega)
  obtain ⟨q, hqq⟩ : ∃ q, q = r / d := ⟨_, rfl⟩
  rw [← hqq] at hq hR hw
  clear hqq
  rw [hR]
  go_enter Try.func98, Try.ntmps98
  go_wp2_with (go_at_call 102; refine (hF _ _ rfl).mono ?_; rintro e w' ⟨rfl, hb⟩)
  go_ret
  exact ⟨by rw [← hw]; rfl, hb⟩

theorem Try.up_calls (a b : Nat) (w : World) (ha : a ≤ 1000000000000000000) (hb : 1 ≤ b) (hb9 : b ≤ 1000000) :
    Calls Try.prog 103 #[.int .i64 (a : Int), .int .i64 (b : Int)] w fun e w' => e = .returned (.int .i64 (upto a b : Int)) ∧ w' = w := by
  have hne : ((b : Int) == 0) = false := beq_eq_false_iff_ne.2 (by omega)
  have hR : ((upto a b : Nat) : Int) = ((a : Int) + (b : Int) - 1) / (b : Int) := by
    rw [show (a : Int) + (b : Int) - 1 = ((a + b - 1 : Nat) : Int) by omega]
    simp [upto]
  go_enter Try.func103, Try.ntmps103
  go_wp2
  go_ret
  exact ⟨by rw [hR]; rfl, rfl⟩

theorem Try.ceiling_calls (n : Nat) (w : World) (hn : n ≤ 1000000000000000000) :
    Calls Try.prog 104 #[.int .i64 (n : Int)] w fun e w' => e = .returned (.int .i64 (ceiling n : Int)) ∧ Below w.heap.size w w' := by
  have hr := rt_most (n := n) (by omega)
  have hs := (rt_is (n := n) (by omega)).1
  have hF := fun (w : World) => Try.Floor_calls n w (by omega)
  have hR : ceiling n = if rt n * rt n < n then rt n + 1 else rt n := rfl
  obtain ⟨r, hrr⟩ : ∃ r, rt n = r := ⟨_, rfl⟩
  rw [hrr] at hr hs
  simp only [hrr] at hF hR
  clear hrr
  have hw : wrap64 ((r : Int) * (r : Int)) = ((r * r : Nat) : Int) := wrap_nat (by simp) (by omega)
  obtain ⟨s, hss⟩ : ∃ s, r * r = s := ⟨_, rfl⟩
  rw [hss] at hw hR hs
  clear hss
  rw [hR]
  clear hR
  go_enter Try.func104, Try.ntmps104
  by_cases hc : s < n
  · have hc' : decide ((s : Int) < (n : Int)) = true := decide_eq_true (by omega)
    rw [if_pos hc]
    go_wp2_with (go_at_call 102; refine (hF _).mono ?_; rintro e w' ⟨rfl, hb⟩)
    go_ret
    exact ⟨by go_num, hb⟩
  · have hc' : decide ((s : Int) < (n : Int)) = false := decide_eq_false (by omega)
    rw [if_neg hc]
    go_wp2_with (go_at_call 102; refine (hF _).mono ?_; rintro e w' ⟨rfl, hb⟩)
    go_ret
    exact ⟨rfl, hb⟩

theorem Try.Ceil_calls (n k d : Nat) (w : World) (hn : n ≤ 80000000000000000) (hk : 1 ≤ k) (hk9 : k ≤ 10) (hd : 1 ≤ d) (hd9 : d ≤ 1000000) :
    Calls Try.prog 92 #[.int .i64 (n : Int), .int .i64 (k : Int), .int .i64 (d : Int)] w fun e w' => e = .returned (.int .i64 (ceil n k d : Int)) ∧ Below w.heap.size w w' := by
  have hk1 : decide ((k : Int) < 1) = false := decide_eq_false (by omega)
  have hd1 : decide ((d : Int) < 1) = false := decide_eq_false (by omega)
  have h1 := upto_most (a := n) hk hn
  have h2 := ceiling_most (n := upto n k) (by omega)
  have hF1 := fun (w : World) => Try.up_calls n k w (by omega) hk (by omega)
  have hF2 := fun (w : World) => Try.ceiling_calls (upto n k) w (by omega)
  have hF3 := fun (w : World) => Try.up_calls (ceiling (upto n k)) d w (by omega) hd (by omega)
  have hR : ceil n k d = upto (ceiling (upto n k)) d := rfl
  rw [hR]
  clear hR h1 h2
  go_enter Try.func92, Try.ntmps92
  go_wp2_with (first
    | (go_at_call 103; first
        | ((with_reducible refine (hF1 _).mono ?_); rintro e w1 ⟨rfl, hw1⟩; obtain rfl : w = w1 := hw1.symm)
        | ((with_reducible refine (hF3 _).mono ?_); rintro e w3 ⟨rfl, hw3⟩; obtain rfl : w2 = w3 := hw3.symm))
    | (go_at_call 104; (with_reducible refine (hF2 _).mono ?_); rintro e w2 ⟨rfl, hb⟩))
  go_ret
  exact ⟨rfl, hb⟩
#print axioms Try.Near_calls
#print axioms Try.Down_calls
#print axioms Try.Ceil_calls
end Go.Proofs
/- The quotients of this program at numbers however they are told; what is equal by what it is compared with; what rises. -/
namespace Go.Proofs
open Go.RowKit Go.Shelf Go.Root

theorem nat_of {n : Int} (h : 0 ≤ n) : ∃ m : Nat, n = (m : Int) := ⟨n.toNat, by omega⟩
theorem Try.Near_at (x y : Int) (n d : Nat) (w : World) (hx : x = (n : Int)) (hy : y = (d : Int)) (hn : n ≤ 80000000000000000) (hd : 1 ≤ d) (hd9 : d ≤ 1000000) :
    Calls Try.prog 90 #[.int .i64 x, .int .i64 y] w fun e w' => e = .returned (.int .i64 (near n d : Int)) ∧ Below w.heap.size w w' := by
  subst hx; subst hy; exact Try.Near_calls n d w hn hd hd9
theorem Try.Down_at (x z y : Int) (n m d : Nat) (w : World) (hx : x = (n : Int)) (hz : z = (m : Int)) (hy : y = (d : Int)) (hn : n ≤ 80000000000000000) (hm9 : m ≤ 10) (hd : 1 ≤ d) (hd9 : d ≤ 1000000) :
    Calls Try.prog 98 #[.int .i64 x, .int .i64 z, .int .i64 y] w fun e w' => e = .returned (.int .i64 (down n m d : Int)) ∧ Below w.heap.size w w' := by
  subst hx; subst hy; subst hz; exact Try.Down_calls n m d w hn hm9 hd hd9
theorem Try.Ceil_at (x z y : Int) (n k d : Nat) (w : World) (hx : x = (n : Int)) (hz : z = (k : Int)) (hy : y = (d : Int)) (hn : n ≤ 80000000000000000) (hk : 1 ≤ k) (hk9 : k ≤ 10) (hd : 1 ≤ d) (hd9 : d ≤ 1000000) :
    Calls Try.prog 92 #[.int .i64 x, .int .i64 z, .int .i64 y] w fun e w' => e = .returned (.int .i64 (ceil n k d : Int)) ∧ Below w.heap.size w w' := by
  subst hx; subst hy; subst hz; exact Try.Ceil_calls n k d w hn hk hk9 hd hd9
/-- Worlds that follow each other, in a row. -/
theorem below_next {n : Nat} {w X Y : World} (h : Below n w X) (k : Below X.heap.size X Y) (hn : n ≤ w.heap.size) : Below n w Y := h.trans (k.mono (Nat.le_trans hn h.size))
end Go.Proofs
/- The distances of package metric: its table of closures, and Dist. Conditions: none but that the numbers are ints. -/
namespace Go.Proofs
open Go.RowKit Go.Shelf Go.Root Go.Metric
attribute [local go_sem] Oper.semAt_some

theorem mbelow_drewN {B : Nat} {a w : World} (h : Below B a w) (n : Nat) : Below B a (w.drewN n) := ⟨h.os, h.tape, h.output, h.size, h.block⟩
/-- A pointer to a box. -/
def ptrTo (b : Nat) : Value := .pointer (some ⟨b, 0, none⟩)
/-- The table of closures, over the boxes from b on. -/
def Try.tabV (b : Nat) : Array Value :=
  #[.nilFunc, .func (.func 89) #[] #[ptrTo (b + 4), ptrTo (b + 2)], .func (.func 91) #[] #[ptrTo (b + 4), ptrTo (b + 2)],
    .func (.func 93) #[] #[ptrTo b, ptrTo (b + 1), ptrTo (b + 2)], .func (.func 95) #[] #[ptrTo b, ptrTo (b + 2), ptrTo (b + 1)],
    .func (.func 96) #[] #[ptrTo (b + 4), ptrTo (b + 2)], .func (.func 97) #[] #[ptrTo (b + 4), ptrTo (b + 2)]]
/-- The boxes that the closures hold. -/
structure Boxes (W : World) (b x y t : Nat) : Prop where
  bx : Boxed W b 3 (.int .i64 (x : Int))
  bY : Boxed W (b + 1) 3 (.int .i64 (y : Int))
  bt : Boxed W (b + 2) 3 (.int .i64 (t : Int))
  bd : Boxed W (b + 4) 3 (.int .i64 ((x * x + y * y : Nat) : Int))

set_option maxRecDepth 100000 in
set_option maxHeartbeats 1000000 in
theorem Try.distances_calls (x y t : Nat) (w : World) (hx : x ≤ 200000000) (hy : y ≤ 200000000) :
    Calls Try.prog 76 #[.int .i64 (x : Int), .int .i64 (y : Int), .int .i64 (t : Int)] w fun e w' => e = .returned (.agg (Try.tabV w.heap.size)) ∧ Below w.heap.size w w' ∧ Boxes w' w.heap.size x y t ∧ w'.heap.size = w.heap.size + 5 := by
  have h1 : x * x ≤ 40000000000000000 := sq_le hx
  have h2 : y * y ≤ 40000000000000000 := sq_le hy
  have hw1 : wrap64 ((x : Int) * (x : Int)) = ((x * x : Nat) : Int) := wrap_nat (by simp) (by omega)
  have hw2 : wrap64 ((y : Int) * (y : Int)) = ((y * y : Nat) : Int) := wrap_nat (by simp) (by omega)
  obtain ⟨p, hp⟩ : ∃ p, x * x = p := ⟨_, rfl⟩
  obtain ⟨q, hq⟩ : ∃ q, y * y = q := ⟨_, rfl⟩
  rw [hp] at h1 hw1
  rw [hq] at h2 hw2
  have Hp := Lib.hid hp
  have Hq := Lib.hid hq
  clear hp hq
  go_enter Try.func76, Try.ntmps76
  go_wp2
  refine bodyPost_ret (v := .agg (Try.tabV w.heap.size)) (by simp [results, Try.results76, go_sem, Try.tabV, ptrTo]) rfl ⟨rfl, ?_, ⟨?_, ?_, ?_, ?_⟩, ?_⟩
  · exact (((((Below.refl _ w).alloc (Nat.le_refl _) _).alloc (by simp) _).alloc (by simp; omega) _).alloc (by simp; omega) _).alloc (by simp; omega) _
  · exact ((((Boxed.new w 3 _).alloc _).alloc _).alloc _).alloc _
  · exact (((Boxed.at 3 _ (by simp)).alloc _).alloc _).alloc _
  · exact ((Boxed.at 3 _ (by simp)).alloc _).alloc _
  · have : ((x * x + y * y : Nat) : Int) = (p : Int) + (q : Int) := by rw [Hp.out, Hq.out]; simp
    rw [this]
    exact Boxed.at 3 _ (by simp)
  · simp

/-! The closures. -/
theorem dist1 (t x y : Nat) : dist 1 t x y = near (x * x + y * y) t := by simp [dist]
theorem dist2 (t x y : Nat) : dist 2 t x y = ceil (x * x + y * y) 1 t := by simp [dist]
theorem dist3 (t x y : Nat) : dist 3 t x y = nst (x + y) t := by simp [dist]
theorem dist4 (t x y : Nat) : dist 4 t x y = max (nst x t) (nst y t) := by simp [dist]
theorem dist5 (t x y : Nat) : dist 5 t x y = ceil (x * x + y * y) 10 t := by simp [dist]
theorem dist6 (t x y : Nat) : dist 6 t x y = down (x * x + y * y) 10 t := by simp [dist]

set_option maxHeartbeats 1000000 in
theorem Try.way1 (b x y t : Nat) (W : World) (hB : Boxes W b x y t) (hx : x ≤ 200000000) (hy : y ≤ 200000000) (ht : 1 ≤ t) (ht9 : t ≤ 1000000) :
    Calls Try.prog 89 #[ptrTo (b + 4), ptrTo (b + 2)] W fun e w' => e = .returned (.int .i64 (dist 1 t x y : Int)) ∧ Below W.heap.size W w' := by
  have c2 := hB.bt.cell
  have c4 := hB.bd.cell
  have hs := sum_most hx hy
  rw [dist1]
  generalize x * x + y * y = n at c4 hs
  have F := fun (w : World) => Try.Near_calls n t w hs ht ht9
  clear hB
  simp only [ptrTo]
  go_enter Try.func89, Try.ntmps89
  go_wp2_with (go_at_call 90; (with_reducible refine (F _).mono ?_); rintro e w1 ⟨rfl, hb⟩)
  go_ret
  exact ⟨rfl, hb⟩
set_option maxHeartbeats 1000000 in
theorem Try.way2 (b x y t : Nat) (W : World) (hB : Boxes W b x y t) (hx : x ≤ 200000000) (hy : y ≤ 200000000) (ht : 1 ≤ t) (ht9 : t ≤ 1000000) :
    Calls Try.prog 91 #[ptrTo (b + 4), ptrTo (b + 2)] W fun e w' => e = .returned (.int .i64 (dist 2 t x y : Int)) ∧ Below W.heap.size W w' := by
  have c2 := hB.bt.cell
  have c4 := hB.bd.cell
  have hs := sum_most hx hy
  rw [dist2]
  generalize x * x + y * y = n at c4 hs
  have F := fun (w : World) => Try.Ceil_at n 1 t n 1 t w rfl rfl rfl hs (by omega) (by omega) ht ht9
  clear hB
  simp only [ptrTo]
  go_enter Try.func91, Try.ntmps91
  go_wp2_with (go_at_call 92; (with_reducible refine (F _).mono ?_); rintro e w1 ⟨rfl, hb⟩)
  go_ret
  exact ⟨rfl, hb⟩
set_option maxHeartbeats 1000000 in
theorem Try.way3 (b x y t : Nat) (W : World) (hB : Boxes W b x y t) (hx : x ≤ 200000000) (hy : y ≤ 200000000) (ht : 1 ≤ t) (ht9 : t ≤ 1000000) :
    Calls Try.prog 93 #[ptrTo b, ptrTo (b + 1), ptrTo (b + 2)] W fun e w' => e = .returned (.int .i64 (dist 3 t x y : Int)) ∧ Below W.heap.size W w' := by
  have c0 := hB.bx.cell
  have c1 := hB.bY.cell
  have c2 := hB.bt.cell
  rw [dist3]
  have F := fun (z : Int) (w : World) (hz : z = ((x + y : Nat) : Int)) => hz ▸ Try.nearest_calls (x + y) t w (by omega) ht ht9
  clear hB
  simp only [ptrTo]
  go_enter Try.func93, Try.ntmps93
  go_wp2_with (go_at_call 94; (with_reducible refine (F _ _ (by omega)).mono ?_); rintro e w1 ⟨rfl, hw⟩; obtain rfl : W = w1 := hw.symm)
  go_ret
  exact ⟨rfl, Below.refl _ _⟩
set_option maxHeartbeats 1000000 in
theorem Try.way4 (b x y t : Nat) (W : World) (hB : Boxes W b x y t) (hx : x ≤ 200000000) (hy : y ≤ 200000000) (ht : 1 ≤ t) (ht9 : t ≤ 1000000) :
    Calls Try.prog 95 #[ptrTo b, ptrTo (b + 2), ptrTo (b + 1)] W fun e w' => e = .returned (.int .i64 (dist 4 t x y : Int)) ∧ Below W.heap.size W w' := by
  have c0 := hB.bx.cell
  have c1 := hB.bY.cell
  have c2 := hB.bt.cell
  rw [dist4]
  have F := fun (w : World) => Try.nearest_calls x t w (by omega) ht ht9
  have G := fun (w : World) => Try.nearest_calls y t w (by omega) ht ht9
  generalize nst x t = p at F
  generalize nst y t = q at G
  clear hB
  simp only [ptrTo]
  go_enter Try.func95, Try.ntmps95
  go_wp2_with (fail)
  go_quiet ((go_at_call 94; first | (with_reducible exact Calls.quiet_of_same (F _)) | (with_reducible exact Calls.quiet_of_same (G _))))
  go_wp2
  go_ret
  exact ⟨mret_num (by go_num), mbelow_drewN (Below.refl _ _) _⟩
set_option maxHeartbeats 1000000 in
theorem Try.way5 (b x y t : Nat) (W : World) (hB : Boxes W b x y t) (hx : x ≤ 200000000) (hy : y ≤ 200000000) (ht : 1 ≤ t) (ht9 : t ≤ 1000000) :
    Calls Try.prog 96 #[ptrTo (b + 4), ptrTo (b + 2)] W fun e w' => e = .returned (.int .i64 (dist 5 t x y : Int)) ∧ Below W.heap.size W w' := by
  have c2 := hB.bt.cell
  have c4 := hB.bd.cell
  have hs := sum_most hx hy
  rw [dist5]
  generalize x * x + y * y = n at c4 hs
  have F := fun (w : World) => Try.Ceil_at n 10 t n 10 t w rfl rfl rfl hs (by omega) (by omega) ht ht9
  clear hB
  simp only [ptrTo]
  go_enter Try.func96, Try.ntmps96
  go_wp2_with (go_at_call 92; (with_reducible refine (F _).mono ?_); rintro e w1 ⟨rfl, hb⟩)
  go_ret
  exact ⟨rfl, hb⟩
set_option maxHeartbeats 1000000 in
theorem Try.way6 (b x y t : Nat) (W : World) (hB : Boxes W b x y t) (hx : x ≤ 200000000) (hy : y ≤ 200000000) (ht : 1 ≤ t) (ht9 : t ≤ 1000000) :
    Calls Try.prog 97 #[ptrTo (b + 4), ptrTo (b + 2)] W fun e w' => e = .returned (.int .i64 (dist 6 t x y : Int)) ∧ Below W.heap.size W w' := by
  have c2 := hB.bt.cell
  have c4 := hB.bd.cell
  have hs := sum_most hx hy
  rw [dist6]
  generalize x * x + y * y = n at c4 hs
  have F := fun (w : World) => Try.Down_at n 10 t n 10 t w rfl rfl rfl hs (by omega) ht ht9
  clear hB
  simp only [ptrTo]
  go_enter Try.func97, Try.ntmps97
  go_wp2_with (go_at_call 98; (with_reducible refine (F _).mono ?_); rintro e w1 ⟨rfl, hb⟩)
  go_ret
  exact ⟨rfl, hb⟩
end Go.Proofs
