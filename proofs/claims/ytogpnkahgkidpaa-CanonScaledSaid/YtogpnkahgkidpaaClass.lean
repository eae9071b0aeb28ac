/- The classes of signs of this program: what the closures of words.oneOf, span, not and either answer. Conditions: signs that a decoder can tell; a list of low bytes. -/
import Derived.Test.YtogpnkahgkidpaaRune
import Derived.OneCell
namespace Go.Proofs
open Go.RowKit Go.Shelf Go.Wds

/-- The closure g with what it holds, lb, is the class p: in w and in whatever w grows into. -/
def Class (g : Nat) (lb : Array Value) (p : Nat → Bool) (w : World) : Prop :=
  ∀ (W : World) (x : Nat), x ≤ 1114111 → Below w.heap.size w W → Calls Try.prog g (#[.int .i32 (x : Int)] ++ lb) W fun e w' => e = .returned (.bool (p x)) ∧ Below W.heap.size W w'
theorem Class.later {g : Nat} {lb : Array Value} {p : Nat → Bool} {w W : World} (h : Class g lb p w) (hb : Below w.heap.size w W) : Class g lb p W :=
  fun W' x hx hb' => h W' x hx (hb.trans (hb'.mono hb.size))
/-- A value of a class, and what it is to call it. -/
def IsClass (v : Value) (p : Nat → Bool) (w : World) : Prop :=
  ∃ (g : Nat) (lb : Array Value), v = .func (.func g) #[] lb ∧ (∀ args w, (callFunc g args).run Try.prog w = .ok (.enter g args) w) ∧ Class g lb p w
theorem IsClass.later {v : Value} {p : Nat → Bool} {w W : World} (h : IsClass v p w) (hb : Below w.heap.size w W) : IsClass v p W := by
  obtain ⟨g, lb, h1, h2, h3⟩ := h
  exact ⟨g, lb, h1, h2, h3.later hb⟩

theorem Try.enters37 : ∀ args w, (callFunc 60 args).run Try.prog w = .ok (.enter 60 args) w := enters_of Try.func60 (by kernel_rfl) rfl
theorem Try.enters39 : ∀ args w, (callFunc 65 args).run Try.prog w = .ok (.enter 65 args) w := enters_of Try.func65 (by kernel_rfl) rfl
theorem Try.enters40 : ∀ args w, (callFunc 58 args).run Try.prog w = .ok (.enter 58 args) w := enters_of Try.func58 (by kernel_rfl) rfl
theorem Try.enters41 : ∀ args w, (callFunc 59 args).run Try.prog w = .ok (.enter 59 args) w := enters_of Try.func59 (by kernel_rfl) rfl

/-- The box of a closure: a cell of w that stands. -/
def Box (w : World) (b : Nat) (v : Value) : Prop := b < w.heap.size ∧ w.cell? ⟨b, 0, none⟩ = some v
theorem Box.later {w W : World} {b : Nat} {v : Value} (h : Box w b v) {n : Nat} (hb : Below n w W) (hn : b < n) : Box W b v :=
  ⟨Nat.lt_of_lt_of_le h.1 hb.size, (hb.cell (p := ⟨b, 0, none⟩) hn).trans h.2⟩
theorem Box.new (w : World) (v : Value) (t : TypeId) : Box (w.alloc (.cells #[v] t)) w.heap.size v := ⟨by simp, by simp⟩

theorem Try.class_oneOf (s : ByteArray) (b : Nat) (w : World) (hlow : Low s) (hb : Box w b (.string s)) : Class 60 #[.pointer (some ⟨b, 0, none⟩)] (has s) w := by
  intro W x hx hW
  have hc := Lib.hid fun w => Try.ContainsRune_calls s x w hlow hx
  have h0 := (hb.later hW hb.1).2
  clear hlow hW hb
  go_enter Try.func60, Try.ntmps60
  go_wp2_with (go_at_call 61; (with_reducible refine (hc.out _).mono ?_); rintro e w1 ⟨rfl, hb1⟩)
  go_ret
  exact ⟨rfl, hb1⟩

def between (a b : Nat) (r : Nat) : Bool := decide (a ≤ r) && decide (r ≤ b)
theorem Try.class_span (a c : Nat) (b b' : Nat) (w : World) (hb : Box w b (.int .i32 (a : Int))) (hb' : Box w b' (.int .i32 (c : Int))) : Class 59 #[.pointer (some ⟨b, 0, none⟩), .pointer (some ⟨b', 0, none⟩)] (between a c) w := by
  intro W x hx hW
  have h0 := (hb.later hW hb.1).2
  have h1 := (hb'.later hW hb'.1).2
  clear hW hb hb'
  unfold between
  by_cases h2 : a ≤ x
  · have d1 : decide (a ≤ x) = true := decide_eq_true h2
    by_cases h3 : x ≤ c
    · have d2 : decide (x ≤ c) = true := decide_eq_true h3
      rw [d1, d2]
      clear h2 h3
      go_enter Try.func59, Try.ntmps59
      go_wp2
      go_ret
      exact ⟨rfl, Below.refl _ _⟩
    · have d2 : decide (x ≤ c) = false := decide_eq_false h3
      rw [d1, d2]
      clear h2 h3
      go_enter Try.func59, Try.ntmps59
      go_wp2
      go_ret
      exact ⟨rfl, Below.refl _ _⟩
  · have d1 : decide (a ≤ x) = false := decide_eq_false h2
    rw [d1, Bool.false_and]
    clear h2
    go_enter Try.func59, Try.ntmps59
    go_wp2
    go_ret
    exact ⟨rfl, Below.refl _ _⟩

theorem Try.class_not {v : Value} {p : Nat → Bool} {b : Nat} {w : World} (hv : IsClass v p w) (hb : Box w b v) : Class 65 #[.pointer (some ⟨b, 0, none⟩)] (fun x => !p x) w := by
  obtain ⟨g, lb, rfl, eg, hcl⟩ := hv
  intro W x hx hW
  have h0 := (hb.later hW hb.1).2
  have hc := Lib.hid (hcl W x hx hW)
  clear hcl hW hb
  cases hp : p x <;> rw [hp] at hc
  all_goals
    have HP := Lib.hid hp
    clear hp
    go_enter Try.func65, Try.ntmps65
    go_wp2_with (go_at_fn g; refine hc.out.mono ?_; rintro e w1 ⟨rfl, hb1⟩)
    go_ret
    rw [HP.out]
    exact ⟨rfl, hb1⟩

/-- The block g holds classes ps. -/
def Hold (w : World) (g : Nat) (ps : List (Nat → Bool)) : Prop :=
  g < w.heap.size ∧ ∀ (i : Nat) (p : Nat → Bool), ps[i]? = some p → ∃ v, w.cell? ⟨g, i, none⟩ = some v ∧ IsClass v p w
theorem Hold.later {w W : World} {g : Nat} {ps : List (Nat → Bool)} (h : Hold w g ps) (hb : Below w.heap.size w W) : Hold W g ps := by
  refine ⟨Nat.lt_of_lt_of_le h.1 hb.size, fun i p hp => ?_⟩
  obtain ⟨v, h1, h2⟩ := h.2 i p hp
  exact ⟨v, (hb.cell (p := ⟨g, i, none⟩) h.1).trans h1, h2.later hb⟩
def anyOf (ps : List (Nat → Bool)) (x : Nat) : Bool := ps.any (fun p => p x)
theorem any_step {ps : List (Nat → Bool)} {k : Nat} {p : Nat → Bool} (h : ps[k]? = some p) (x : Nat) : anyOf (ps.drop k) x = (p x || anyOf (ps.drop (k + 1)) x) := by
  obtain ⟨hk, rfl⟩ := List.getElem?_eq_some_iff.1 h
  rw [List.drop_eq_getElem_cons hk]; rfl

set_option maxRecDepth 100000 in
set_option maxHeartbeats 1000000 in
theorem Try.class_either {g cap b : Nat} {ps : List (Nat → Bool)} {w : World} (hl : ps.length ≤ 100) (hv : Hold w g ps) (hb : Box w b (.slice (some ⟨g, 0, none⟩) ps.length cap)) : Class 58 #[.pointer (some ⟨b, 0, none⟩)] (anyOf ps) w := by
  intro W x hx hW
  have h0 := (hb.later hW hb.1).2
  have HV := Lib.hid (hv.later hW)
  clear hW hb hv
  go_enter Try.func58, Try.ntmps58
  go_wp2
  go_loopw [8] (fun i wr => ∃ k : Nat, k ≤ ps.length ∧ i = .int .i64 (k : Int) ∧ anyOf ps x = anyOf (ps.drop k) x ∧ Below W.heap.size W wr) (fun i _ => ps.length - (intOf i).toNat)
  case atStart => exact ⟨0, Nat.zero_le _, rfl, rfl, Below.refl _ _⟩
  case round =>
    obtain ⟨k, hk, rfl, he, hB⟩ := hrel
    by_cases hlt : k < ps.length
    · have hp : ps[k]? = some ps[k] := List.getElem?_eq_getElem hlt
      obtain ⟨v, h1, gv, lb, rfl, eg, hcl⟩ := (HV.out.later hB).2 k _ hp
      rw [any_step hp] at he
      have hc := Lib.hid (hcl wr x hx (Below.refl _ _))
      clear hcl hp
      cases hpx : ps[k] x with
      | true =>
        rw [hpx] at hc he
        have HE := Lib.hid he
        clear he hpx
        go_wp2_with (go_at_fn gv; refine hc.out.mono ?_; rintro e w1 ⟨rfl, hb1⟩)
        go_ret
        rw [HE.out]
        exact ⟨rfl, hB.trans (hb1.mono hB.size)⟩
      | false =>
        rw [hpx] at hc he
        have HE := Lib.hid he
        clear he hpx
        go_wp2_with (go_at_fn gv; refine hc.out.mono ?_; rintro e w1 ⟨rfl, hb1⟩)
        go_roundw
        case rel => exact ⟨k + 1, by omega, by go_num, by rw [HE.out, Bool.false_or], hB.trans (hb1.mono hB.size)⟩
        case measure => simp [intOf]; omega
    · have hkk : k = ps.length := by omega
      subst hkk
      rw [List.drop_length] at he
      have HE := Lib.hid he
      clear he
      go_wp2
      go_ret
      rw [HE.out]
      exact ⟨rfl, hB⟩

theorem Try.oneOf_calls (s : ByteArray) (w : World) (hlow : Low s) :
    Calls Try.prog 55 #[.string s] w fun e w' => ∃ v, e = .returned v ∧ IsClass v (has s) w' ∧ Below w.heap.size w w' := by
  have HL := Lib.hid hlow
  clear hlow
  go_enter Try.func55, Try.ntmps55
  go_wp2
  go_ret
  exact ⟨_, rfl, ⟨60, _, rfl, Try.enters37, Try.class_oneOf s w.heap.size _ HL.out (Box.new _ _ _)⟩, (Below.refl _ _).alloc (Nat.le_refl _) _⟩
theorem Try.span_calls (a c : Nat) (w : World) :
    Calls Try.prog 54 #[.int .i32 (a : Int), .int .i32 (c : Int)] w fun e w' => ∃ v, e = .returned v ∧ IsClass v (between a c) w' ∧ Below w.heap.size w w' := by
  go_enter Try.func54, Try.ntmps54
  go_wp2
  go_ret
  have k1 : Below w.heap.size w (w.alloc (.cells #[.int .i32 (a : Int)] 21)) := (Below.refl _ _).alloc (Nat.le_refl _) _
  have k2 : Below (w.heap.size + 1) (w.alloc (.cells #[.int .i32 (a : Int)] 21)) ((w.alloc (.cells #[.int .i32 (a : Int)] 21)).alloc (.cells #[.int .i32 (c : Int)] 21)) := (Below.refl _ _).alloc (by simp) _
  have b1 := (Box.new w (.int .i32 (a : Int)) 21).later k2 (by omega)
  have b2 := Box.new (w.alloc (.cells #[.int .i32 (a : Int)] 21)) (.int .i32 (c : Int)) 21
  rw [show (w.alloc (.cells #[.int .i32 (a : Int)] 21)).heap.size = w.heap.size + 1 from by simp] at b2
  exact ⟨_, rfl, ⟨59, _, rfl, Try.enters41, Try.class_span a c w.heap.size (w.heap.size + 1) _ b1 b2⟩, k1.trans (k2.mono (by omega))⟩
theorem Try.not_calls {v : Value} {p : Nat → Bool} {w : World} (hv : IsClass v p w) :
    Calls Try.prog 63 #[v] w fun e w' => ∃ v', e = .returned v' ∧ IsClass v' (fun x => !p x) w' ∧ Below w.heap.size w w' := by
  have HV := Lib.hid hv
  obtain ⟨g, lb, rfl, _⟩ := hv
  go_enter Try.func63, Try.ntmps63
  go_wp2
  go_ret
  have hb := fun o => Below.alloc (Below.refl w.heap.size w) (Nat.le_refl _) o
  exact ⟨_, rfl, ⟨65, _, rfl, Try.enters39, Try.class_not (HV.out.later (hb _)) (Box.new _ _ _)⟩, hb _⟩
theorem Try.either_calls {g cap : Nat} {ps : List (Nat → Bool)} {w : World} (hl : ps.length ≤ 100) (hv : Hold w g ps) :
    Calls Try.prog 53 #[.slice (some ⟨g, 0, none⟩) ps.length cap] w fun e w' => ∃ v', e = .returned v' ∧ IsClass v' (anyOf ps) w' ∧ Below w.heap.size w w' := by
  have HV := Lib.hid hv
  clear hv
  go_enter Try.func53, Try.ntmps53
  go_wp2
  go_ret
  have hb : Below w.heap.size w (w.alloc (.cells #[.slice (some ⟨g, 0, none⟩) ps.length cap] 77)) := (Below.refl _ _).alloc (Nat.le_refl _) _
  exact ⟨_, rfl, ⟨58, _, rfl, Try.enters40, Try.class_either hl (HV.out.later hb) (Box.new _ _ _)⟩, hb⟩
#print axioms Try.class_oneOf
#print axioms Try.class_span
#print axioms Try.class_not
#print axioms Try.class_either
#print axioms Try.either_calls
end Go.Proofs
