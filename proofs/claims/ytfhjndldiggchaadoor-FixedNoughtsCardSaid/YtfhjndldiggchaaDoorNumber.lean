/- The two closures of package fixed that take a number from a reader. Conditions: the reader is a block of one cell. -/
import Derived.Test.YtfhjndldiggchaaDoorReader
import Derived.RangeFuncNested
namespace Go.Fx
/-- The digits ahead. -/
def digs (l : List UInt8) : List UInt8 := l.takeWhile dg
def sgn (l : List UInt8) : Int := if headB 45 l then -1 else 1
/-- What Int's reader takes: the number, its places, what is left. -/
def numI (l : List UInt8) : Option (Int × Nat × List UInt8) :=
  if 1 ≤ (digs (tailIf 45 l)).length ∧ (digs (tailIf 45 l)).length ≤ 12 then
    some (sgn l * valF 0 (digs (tailIf 45 l)), 0, (tailIf 45 l).drop (digs (tailIf 45 l)).length)
  else none
/-- What Read's reader takes behind the digits d, with a sign g. -/
def numT (g n : Int) (r : List UInt8) : Option (Int × Nat × List UInt8) :=
  if headB 46 r = true then
    if 1 ≤ (digs r.tail).length ∧ (digs r.tail).length ≤ 6 then some (g * valF n (digs r.tail), (digs r.tail).length, r.tail.drop (digs r.tail).length) else none
  else some (g * n, 0, r)
def numR (l : List UInt8) : Option (Int × Nat × List UInt8) :=
  if 1 ≤ (digs (tailIf 45 l)).length ∧ (digs (tailIf 45 l)).length ≤ 12 then
    numT (sgn l) (valF 0 (digs (tailIf 45 l))) ((tailIf 45 l).drop (digs (tailIf 45 l)).length)
  else none
theorem digs_all {l : List UInt8} : ∀ c ∈ digs l, dg c = true := fun _ h => by
  have := List.all_takeWhile (p := dg) (l := l)
  rw [List.all_eq_true] at this
  exact this _ h
theorem sgn_wrap (l : List UInt8) {v : Int} (h0 : 0 ≤ v) (h1 : v ≤ 1000000000000000000) : RowKit.wrap64 (sgn l * v) = sgn l * v := by
  have : sgn l * v = v ∨ sgn l * v = -v := by unfold sgn; split <;> omega
  unfold RowKit.wrap64
  omega
theorem digs_val (l : List UInt8) {m : Int} {a : Nat} (h0 : 0 ≤ m) (h1 : m < ((10 ^ a : Nat) : Int)) {k : Nat} (hk : a + (digs l).length ≤ k) : 0 ≤ valF m (digs l) ∧ valF m (digs l) < ((10 ^ k : Nat) : Int) := by
  have := valF_bd m h0 h1 (digs l) digs_all
  have e : 10 ^ (a + (digs l).length) ≤ 10 ^ k := Nat.pow_le_pow_right (by omega) hk
  omega
theorem sgn_cases (l : List UInt8) : sgn l = 1 ∨ sgn l = -1 := by unfold sgn; split <;> simp
end Go.Fx
namespace Go.Proofs
open Go.RowKit Go.Fx
attribute [local go_sem] Oper.semAt_some

/-- All that was there is as it was, but for block b. -/
structure But (b : Nat) (w w' : World) : Prop where
  os : w'.os = w.os
  tape : w'.tape = w.tape
  output : w'.output = w.output
  size : w.heap.size ≤ w'.heap.size
  block : ∀ k, k < w.heap.size → k ≠ b → w'.heap[k]? = w.heap[k]?
theorem But.refl (b : Nat) (w : World) : But b w w := ⟨rfl, rfl, rfl, Nat.le_refl _, fun _ _ _ => rfl⟩
theorem But.trans {b : Nat} {x y z : World} (h : But b x y) (k : But b y z) : But b x z :=
  ⟨k.os.trans h.os, k.tape.trans h.tape, k.output.trans h.output, Nat.le_trans h.size k.size, fun i hi hn => (k.block i (Nat.lt_of_lt_of_le hi h.size) hn).trans (h.block i hi hn)⟩
theorem But.alloc {b : Nat} {x y : World} (h : But b x y) (o : Obj) : But b x (y.alloc o) :=
  h.trans ⟨rfl, rfl, rfl, by simp, fun k hk _ => Below.heap_alloc _ _ _ hk⟩
theorem But.own {b : Nat} {x y : World} (h : But b x y) {p : Addr} (hp : p.block = b) (v : Value) : But b x (y.setCell p v) :=
  h.trans ⟨rfl, rfl, rfl, by simp [World.setCell], fun k _ hn => Below.heap_setCell _ _ _ _ (by omega)⟩
theorem But.new {b : Nat} {x y : World} (h : But b x y) {p : Addr} (hp : x.heap.size ≤ p.block) (v : Value) : But b x (y.setCell p v) :=
  ⟨h.os, h.tape, h.output, by simp [World.setCell]; exact h.size, fun k hk hn => (Below.heap_setCell _ _ _ _ (by omega)).trans (h.block k hk hn)⟩
theorem But.below {b B : Nat} {x y : World} (h : But b x y) (hb : B ≤ b) (hB : B ≤ x.heap.size) : Below B x y :=
  ⟨h.os, h.tape, h.output, h.size, fun k hk => h.block k (by omega) (by omega)⟩
theorem But.cell {b k : Nat} {x y : World} (h : But b x y) (hk : k < x.heap.size) (hn : k ≠ b) (o : Nat) : y.cell? ⟨k, o, none⟩ = x.cell? ⟨k, o, none⟩ := World.cell?_of_block (w := x) (h.block k hk hn)
theorem But.frozen {b k : Nat} {x y : World} (h : But b x y) (hk : k < x.heap.size) (hn : k ≠ b) (o : Nat) : y.frozen? ⟨k, o, none⟩ = x.frozen? ⟨k, o, none⟩ := World.frozen?_of_block (w := x) (h.block k hk hn)
/-- The two cells of a number that was made, behind what wrote to block b alone. -/
theorem But.fresh {b : Nat} {w y : World} {t : TypeId} {u v : Value} (h : But b (w.alloc (.cells #[u, v] t)) y) (hb : b < w.heap.size) :
    y.cell? ⟨w.heap.size, 0, none⟩ = some u ∧ y.cell? ⟨w.heap.size, 1, none⟩ = some v ∧ y.frozen? ⟨w.heap.size, 0, none⟩ = false ∧ y.frozen? ⟨w.heap.size, 1, none⟩ = false := by
  refine ⟨?_, ?_, ?_, ?_⟩
  · rw [h.cell (by simp) (by omega)]; simp [go_sem]
  · rw [h.cell (by simp) (by omega)]; simp [go_sem]
  · rw [h.frozen (by simp) (by omega)]; simp [go_sem]
  · rw [h.frozen (by simp) (by omega)]; simp [go_sem]
theorem tailIf_len {c : UInt8} {l : List UInt8} {n : Nat} (h : l.length ≤ n) : (tailIf c l).length ≤ n := by
  unfold tailIf
  split
  · rw [List.length_tail]; omega
  · exact h
theorem Boxed.apart {W : World} {b : Nat} {t : TypeId} {v : Value} (h : Boxed W b t v) {p : Addr} (hp : b ≠ p.block) (u : Value) : Boxed (W.setCell p u) b t v := (Below.heap_setCell W p u b hp).trans h
theorem Boxed.below {B b : Nat} {W W' : World} {t : TypeId} {v : Value} (h : Boxed W b t v) (hb : Below B W W') (hlt : b < B) : Boxed W' b t v := (hb.block b hlt).trans h

theorem Tryd.skip_box {b : Nat} {l : List UInt8} (c : UInt8) {w : World} (h : Boxed w b 61 (.string ⟨l.toArray⟩)) :
    Calls Tryd.prog 39 #[.pointer (some ⟨b, 0, none⟩), .string ⟨#[c]⟩] w fun e w' => e = .returned (.bool (headB c l)) ∧ Boxed w' b 61 (.string ⟨(tailIf c l).toArray⟩) ∧ But b w w' :=
  (Tryd.skip_any b l c w h.cell h.frozen).mono fun _ _ ⟨a, e⟩ => by subst e; exact ⟨a, h.set _, (But.refl b _).own (p := ⟨b, 0, none⟩) rfl _⟩
theorem Tryd.sign_box {b : Nat} {l : List UInt8} {w : World} (h : Boxed w b 61 (.string ⟨l.toArray⟩)) :
    Calls Tryd.prog 26 #[.pointer (some ⟨b, 0, none⟩)] w fun e w' => e = .returned (.int .i64 (sgn l)) ∧ Boxed w' b 61 (.string ⟨(tailIf 45 l).toArray⟩) ∧ But b w w' :=
  (Tryd.sign_any b l w h.cell h.frozen).mono fun _ _ ⟨a, e⟩ => by subst e; exact ⟨a, h.set _, (But.refl b _).own (p := ⟨b, 0, none⟩) rfl _⟩
theorem Tryd.point_box {b : Nat} {l : List UInt8} {w : World} (h : Boxed w b 61 (.string ⟨l.toArray⟩)) :
    Calls Tryd.prog 30 #[.pointer (some ⟨b, 0, none⟩)] w fun e w' => e = .returned (.bool (headB 46 l)) ∧ Boxed w' b 61 (.string ⟨(tailIf 46 l).toArray⟩) ∧ But b w w' :=
  (Tryd.point_any b l w h.cell h.frozen).mono fun _ _ ⟨a, e⟩ => by subst e; exact ⟨a, h.set _, (But.refl b _).own (p := ⟨b, 0, none⟩) rfl _⟩
theorem Tryd.digits_yes {b : Nat} {l : List UInt8} {w : World} (h : Boxed w b 61 (.string ⟨l.toArray⟩)) (hl : l.length ≤ 9223372036854775807) (m : Int) (a most : Nat) (h0 : 0 ≤ m) (h1 : m < ((10 ^ a : Nat) : Int)) (hm0 : 1 ≤ most) (hm : a + most ≤ 18)
    (hd : 1 ≤ (digs l).length ∧ (digs l).length ≤ most) :
    Calls Tryd.prog 27 #[.pointer (some ⟨b, 0, none⟩), .int .i64 m, .int .i64 (most : Int)] w fun e w' => e = .returned (.tuple #[.int .i64 (valF m (digs l)), .int .i64 ((digs l).length : Int)]) ∧ Boxed w' b 61 (.string ⟨(l.drop (digs l).length).toArray⟩) ∧ But b w w' := by
  refine (Tryd.digits_any b ⟨l.toArray⟩ (show l.toArray.size ≤ _ by simpa using hl) m a most h0 h1 hm0 hm w h.cell h.frozen).mono fun e w' hp => ?_
  unfold DigPost at hp
  rw [if_pos (by unfold digs at hd; simp only; omega)] at hp
  obtain ⟨x, e⟩ := hp
  subst e
  simp only at x ⊢
  exact ⟨x, h.set _, (But.refl b _).own (p := ⟨b, 0, none⟩) rfl _⟩
theorem Tryd.digits_no {b : Nat} {l : List UInt8} {w : World} (h : Boxed w b 61 (.string ⟨l.toArray⟩)) (hl : l.length ≤ 9223372036854775807) (m : Int) (a most : Nat) (h0 : 0 ≤ m) (h1 : m < ((10 ^ a : Nat) : Int)) (hm0 : 1 ≤ most) (hm : a + most ≤ 18)
    (hd : ¬ (1 ≤ (digs l).length ∧ (digs l).length ≤ most)) :
    Calls Tryd.prog 27 #[.pointer (some ⟨b, 0, none⟩), .int .i64 m, .int .i64 (most : Int)] w fun e w' => e = .panicked [{ v := .iface 23 (.int .i64 20), recovered := false }] ∧ But b w w' := by
  refine (Tryd.digits_any b ⟨l.toArray⟩ (show l.toArray.size ≤ _ by simpa using hl) m a most h0 h1 hm0 hm w h.cell h.frozen).mono fun e w' hp => ?_
  unfold DigPost at hp
  rw [if_neg (by unfold digs at hd; simp only; omega)] at hp
  obtain ⟨x, e⟩ := hp
  subst e
  exact ⟨x, But.refl _ _⟩
/-- How a closure ends that takes a number. -/
def NumPost (b : Nat) (o : Option (Int × Nat × List UInt8)) (w : World) (e : Ending) (w' : World) : Prop :=
  match o with
  | some (m, s, r) => e = .returned (.agg #[.int .i64 m, .int .i64 (s : Int)]) ∧ Boxed w' b 61 (.string ⟨r.toArray⟩) ∧ But b w w'
  | none => e = up20 ∧ But b w w'

set_option maxHeartbeats 400000 in
theorem Tryd.Int1_any {b : Nat} {l : List UInt8} {w : World} (h : Boxed w b 61 (.string ⟨l.toArray⟩)) (hl : l.length ≤ 9223372036854775807) :
    Calls Tryd.prog 25 #[.pointer (some ⟨b, 0, none⟩)] w fun e w' => NumPost b (numI l) w e w' := by
  by_cases hd : 1 ≤ (digs (tailIf 45 l)).length ∧ (digs (tailIf 45 l)).length ≤ 12
  · have hb := h.alloc (.cells #[.int .i64 0, .int .i64 0] 27)
    have hv := digs_val (tailIf 45 l) (m := 0) (a := 0) (k := 12) (by omega) (by decide) (by omega)
    have HW : Hid (wrap64 (sgn l * valF 0 (digs (tailIf 45 l))) = sgn l * valF 0 (digs (tailIf 45 l))) := sgn_wrap l hv.1 (by have := hv.2; simp at this; omega)
    clear hv
    have HD := Lib.hid hd
    have hn := h.lt
    clear hd
    go_enter Tryd.func25, Tryd.ntmps25
    go_wp2_with (go_at_call 26; refine (Tryd.sign_box hb).mono ?_; rintro e w1 ⟨rfl, hb1, hk1⟩)
    go_wp2_with (go_at_call 27; refine (Tryd.digits_yes hb1 (tailIf_len hl) 0 0 12 (by omega) (by decide) (by omega) (by omega) HD.out).mono ?_; rintro e w2 ⟨rfl, hb2, hk2⟩; obtain ⟨c0, c1, f0, f1⟩ := (hk1.trans hk2).fresh hn)
    refine bodyPost_ret (v := .agg #[.int .i64 (sgn l * valF 0 (digs (tailIf 45 l))), .int .i64 ((0 : Nat) : Int)]) (by rw [HW.out]; simp [results, Tryd.results25, go_sem, c0, c1]) rfl ?_
    rw [show numI l = some _ from by unfold numI; rw [if_pos HD.out]]
    exact ⟨rfl, Boxed.apart (Boxed.apart hb2 (by simp; omega) _) (by simp; omega) _, ((((But.refl b w).alloc _).trans (hk1.trans hk2)).new (by simp) _).new (by simp) _⟩
  · have hb := h.alloc (.cells #[.int .i64 0, .int .i64 0] 27)
    have HD := Lib.hid hd
    have hn := h.lt
    clear hd
    go_enter Tryd.func25, Tryd.ntmps25
    go_wp2_with (go_at_call 26; refine (Tryd.sign_box hb).mono ?_; rintro e w1 ⟨rfl, hb1, hk1⟩)
    go_wp2_with (go_at_call 27; refine (Tryd.digits_no hb1 (tailIf_len hl) 0 0 12 (by omega) (by decide) (by omega) (by omega) HD.out).mono ?_; rintro e w2 ⟨rfl, hk2⟩)
    refine ⟨rfl, ?_⟩
    rw [show numI l = none from by unfold numI; rw [if_neg HD.out]]
    exact ⟨rfl, ((But.refl b w).alloc _).trans (hk1.trans hk2)⟩

theorem tailIf_no {c : UInt8} {l : List UInt8} (h : headB c l = false) : tailIf c l = l := by unfold tailIf; rw [h]; rfl
theorem tailIf_yes {c : UInt8} {l : List UInt8} (h : headB c l = true) : tailIf c l = l.tail := by unfold tailIf; rw [h]; rfl

theorem Tryd.point_yes {b : Nat} {l : List UInt8} {w : World} (h : Boxed w b 61 (.string ⟨l.toArray⟩)) (hp : headB 46 l = true) :
    Calls Tryd.prog 30 #[.pointer (some ⟨b, 0, none⟩)] w fun e w' => e = .returned (.bool true) ∧ Boxed w' b 61 (.string ⟨l.tail.toArray⟩) ∧ But b w w' := by
  have := Tryd.point_box h
  rw [hp, tailIf_yes hp] at this
  exact this
theorem Tryd.point_no {b : Nat} {l : List UInt8} {w : World} (h : Boxed w b 61 (.string ⟨l.toArray⟩)) (hp : headB 46 l = false) :
    Calls Tryd.prog 30 #[.pointer (some ⟨b, 0, none⟩)] w fun e w' => e = .returned (.bool false) ∧ Boxed w' b 61 (.string ⟨l.toArray⟩) ∧ But b w w' := by
  have := Tryd.point_box h
  rw [hp, tailIf_no hp] at this
  exact this

set_option maxHeartbeats 400000 in
theorem Tryd.Read1_none {b : Nat} {l : List UInt8} {w : World} (h : Boxed w b 61 (.string ⟨l.toArray⟩)) (hl : l.length ≤ 9223372036854775807) (hd : ¬ (1 ≤ (digs (tailIf 45 l)).length ∧ (digs (tailIf 45 l)).length ≤ 12)) :
    Calls Tryd.prog 29 #[.pointer (some ⟨b, 0, none⟩)] w fun e w' => NumPost b (numR l) w e w' := by
  have hb := h.alloc (.cells #[.int .i64 0, .int .i64 0] 27)
  have HD := Lib.hid hd
  have hn := h.lt
  clear hd
  go_enter Tryd.func29, Tryd.ntmps29
  go_wp2_with (go_at_call 26; refine (Tryd.sign_box hb).mono ?_; rintro e w1 ⟨rfl, hb1, hk1⟩)
  go_wp2_with (go_at_call 27; refine (Tryd.digits_no hb1 (tailIf_len hl) 0 0 12 (by omega) (by decide) (by omega) (by omega) HD.out).mono ?_; rintro e w2 ⟨rfl, hk2⟩)
  refine ⟨rfl, ?_⟩
  rw [show numR l = none from by unfold numR; rw [if_neg HD.out]]
  exact ⟨rfl, ((But.refl b w).alloc _).trans (hk1.trans hk2)⟩

set_option maxHeartbeats 800000 in
theorem Tryd.Read1_some {b : Nat} {l : List UInt8} {w : World} (h : Boxed w b 61 (.string ⟨l.toArray⟩)) (hl : l.length ≤ 9223372036854775807) (hd : 1 ≤ (digs (tailIf 45 l)).length ∧ (digs (tailIf 45 l)).length ≤ 12) :
    Calls Tryd.prog 29 #[.pointer (some ⟨b, 0, none⟩)] w fun e w' => NumPost b (numR l) w e w' := by
  obtain ⟨r, hr⟩ : ∃ r, r = (tailIf 45 l).drop (digs (tailIf 45 l)).length := ⟨_, rfl⟩
  obtain ⟨n, hn⟩ : ∃ n, n = valF 0 (digs (tailIf 45 l)) := ⟨_, rfl⟩
  have hR : numR l = numT (sgn l) n r := by unfold numR; rw [if_pos hd, ← hr, ← hn]
  have hrl : r.length ≤ 9223372036854775807 := by rw [hr, List.length_drop]; have := tailIf_len (c := 45) hl; omega
  have hv := digs_val (tailIf 45 l) (m := 0) (a := 0) (k := 12) (by omega) (by decide) (by omega)
  rw [← hn] at hv
  have HW : Hid (wrap64 (sgn l * n) = sgn l * n) := sgn_wrap l hv.1 (by have := hv.2; simp at this; omega)
  have HD : Hid (∀ (w1 : World), Boxed w1 b 61 (.string ⟨(tailIf 45 l).toArray⟩) → Calls Tryd.prog 27 #[.pointer (some ⟨b, 0, none⟩), .int .i64 0, .int .i64 12] w1 fun e w' => e = .returned (.tuple #[.int .i64 n, .int .i64 ((digs (tailIf 45 l)).length : Int)]) ∧ Boxed w' b 61 (.string ⟨r.toArray⟩) ∧ But b w1 w') := by
    intro w1 hb1
    rw [hn, hr]
    exact Tryd.digits_yes hb1 (tailIf_len hl) 0 0 12 (by omega) (by decide) (by omega) (by omega) hd
  have hb := h.alloc (.cells #[.int .i64 0, .int .i64 0] 27)
  have hlt := h.lt
  rw [hR]
  have hn0 := hv.1
  have HN : Hid (n < ((10 ^ 12 : Nat) : Int)) := hv.2
  clear hd hr hn hv hR
  by_cases hp : headB 46 r = true
  · have ht := tailIf_yes hp
    have hrt : r.tail.length ≤ 9223372036854775807 := by rw [List.length_tail]; omega
    by_cases hq : 1 ≤ (digs r.tail).length ∧ (digs r.tail).length ≤ 6
    · have hT : numT (sgn l) n r = some (sgn l * valF n (digs r.tail), (digs r.tail).length, r.tail.drop (digs r.tail).length) := by unfold numT; rw [if_pos hp, if_pos hq]
      have hv2 := digs_val r.tail (m := n) (a := 12) (k := 18) hn0 HN.out (by omega)
      have HW2 : Hid (wrap64 (sgn l * valF n (digs r.tail)) = sgn l * valF n (digs r.tail)) := sgn_wrap l hv2.1 (by have := hv2.2; simp at this; omega)
      have HQ := Lib.hid hq
      have HTT := Lib.hid hT
      have HP := Lib.hid hp
      clear ht hq hT hv2 hp
      go_enter Tryd.func29, Tryd.ntmps29
      go_wp2_with (go_at_call 26; refine (Tryd.sign_box hb).mono ?_; rintro e w1 ⟨rfl, hb1, hk1⟩)
      go_wp2_with (go_at_call 27; refine (HD.out _ hb1).mono ?_; rintro e w2 ⟨rfl, hb2, hk2⟩)
      go_wp2_with (go_at_call 30; refine (Tryd.point_yes hb2 HP.out).mono ?_; rintro e w3 ⟨rfl, hb3, hk3⟩)
      go_wp2_with (go_at_call 27; refine (Tryd.digits_yes hb3 hrt n 12 6 hn0 HN.out (by omega) (by omega) HQ.out).mono ?_; rintro e w4 ⟨rfl, hb4, hk4⟩; obtain ⟨c0, c1, f0, f1⟩ := (((hk1.trans hk2).trans hk3).trans hk4).fresh hlt)
      refine bodyPost_ret (v := .agg #[.int .i64 (sgn l * valF n (digs r.tail)), .int .i64 ((digs r.tail).length : Int)]) (by rw [HW2.out]; simp [results, Tryd.results29, go_sem, c0, c1]) rfl ?_
      rw [HTT.out]
      exact ⟨rfl, Boxed.apart (Boxed.apart hb4 (by simp; omega) _) (by simp; omega) _, ((((But.refl b w).alloc _).trans (((hk1.trans hk2).trans hk3).trans hk4)).new (by simp) _).new (by simp) _⟩
    · have hT : numT (sgn l) n r = none := by unfold numT; rw [if_pos hp, if_neg hq]
      have HQ := Lib.hid hq
      have HTT := Lib.hid hT
      have HP := Lib.hid hp
      clear ht hq hT hp
      go_enter Tryd.func29, Tryd.ntmps29
      go_wp2_with (go_at_call 26; refine (Tryd.sign_box hb).mono ?_; rintro e w1 ⟨rfl, hb1, hk1⟩)
      go_wp2_with (go_at_call 27; refine (HD.out _ hb1).mono ?_; rintro e w2 ⟨rfl, hb2, hk2⟩)
      go_wp2_with (go_at_call 30; refine (Tryd.point_yes hb2 HP.out).mono ?_; rintro e w3 ⟨rfl, hb3, hk3⟩)
      go_wp2_with (go_at_call 27; refine (Tryd.digits_no hb3 hrt n 12 6 hn0 HN.out (by omega) (by omega) HQ.out).mono ?_; rintro e w4 ⟨rfl, hk4⟩)
      refine ⟨rfl, ?_⟩
      rw [HTT.out]
      exact ⟨rfl, ((But.refl b w).alloc _).trans (((hk1.trans hk2).trans hk3).trans hk4)⟩
  · have hT : numT (sgn l) n r = some (sgn l * n, 0, r) := by unfold numT; rw [if_neg hp]
    have HTT := Lib.hid hT
    simp only [Bool.not_eq_true] at hp
    have HP := Lib.hid hp
    clear hT hp
    go_enter Tryd.func29, Tryd.ntmps29
    go_wp2_with (go_at_call 26; refine (Tryd.sign_box hb).mono ?_; rintro e w1 ⟨rfl, hb1, hk1⟩)
    go_wp2_with (go_at_call 27; refine (HD.out _ hb1).mono ?_; rintro e w2 ⟨rfl, hb2, hk2⟩)
    go_wp2_with (go_at_call 30; refine (Tryd.point_no hb2 HP.out).mono ?_; rintro e w3 ⟨rfl, hb3, hk3⟩; obtain ⟨c0, c1, f0, f1⟩ := ((hk1.trans hk2).trans hk3).fresh hlt)
    refine bodyPost_ret (v := .agg #[.int .i64 (sgn l * n), .int .i64 ((0 : Nat) : Int)]) (by rw [HW.out]; simp [results, Tryd.results29, go_sem, c0, c1]) rfl ?_
    rw [HTT.out]
    exact ⟨rfl, Boxed.apart (Boxed.apart hb3 (by simp; omega) _) (by simp; omega) _, ((((But.refl b w).alloc _).trans ((hk1.trans hk2).trans hk3)).new (by simp) _).new (by simp) _⟩
theorem Tryd.Read1_any {b : Nat} {l : List UInt8} {w : World} (h : Boxed w b 61 (.string ⟨l.toArray⟩)) (hl : l.length ≤ 9223372036854775807) :
    Calls Tryd.prog 29 #[.pointer (some ⟨b, 0, none⟩)] w fun e w' => NumPost b (numR l) w e w' := by
  by_cases hd : 1 ≤ (digs (tailIf 45 l)).length ∧ (digs (tailIf 45 l)).length ≤ 12
  · exact Tryd.Read1_some h hl hd
  · exact Tryd.Read1_none h hl hd
#print axioms Tryd.Int1_any
#print axioms Tryd.Read1_any
end Go.Proofs
