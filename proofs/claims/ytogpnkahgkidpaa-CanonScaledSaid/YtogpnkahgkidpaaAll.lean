/- words.all, words.fits, words.Plain, words.Name, and words.either at three and four classes, of this program, as contracts. Conditions: a text of at most two million bytes. -/
import Derived.Test.YtogpnkahgkidpaaSeek
import Derived.RangeFuncRecord
namespace Go.Wds
theorem all_seek (q : UInt8 → Bool) (l : List UInt8) : decide (seekL (fun c => !q c) l 0 l.length = l.length) = l.all q := by
  rw [Bool.eq_iff_iff, decide_eq_true_iff, List.all_eq_true]
  constructor
  · intro h x hx
    obtain ⟨i, hi⟩ := List.mem_iff_getElem?.1 hx
    have hil : i < l.length := (List.getElem?_eq_some_iff.1 hi).1
    have := seek_none (q := fun c => !q c) (l := l) (a := 0) (b := l.length) (Nat.zero_le i) (by omega) hi
    simpa using this
  · intro h
    refine seek_eq (Nat.zero_le _) (Nat.le_refl _) (fun j c _ _ hc => ?_) (fun h => by omega)
    have := h c (List.mem_of_getElem? hc)
    simp [this]
/-- All bytes are of a class. -/
def allL (q : UInt8 → Bool) (l : List UInt8) : Bool := l.all q
/-- 1 to 40 bytes, all of a class. -/
def fitL (q : UInt8 → Bool) (l : List UInt8) : Bool := decide (1 ≤ l.length) && decide (l.length ≤ 40) && allL q l
end Go.Wds
namespace Go.Proofs
open Go.RowKit Go.Shelf Go.Wds

set_option maxRecDepth 100000 in
theorem Try.all_calls {v : Value} {p : Nat → Bool} (s : ByteArray) (w : World) (hs : s.size ≤ 2000000) (hp : Flat p) (hv : IsClass v p w) :
    Calls Try.prog 57 #[.string s, v] w fun e w' => e = .returned (.bool (allL (ofB p) s.data.toList)) ∧ Below w.heap.size w w' := by
  have hl : s.data.toList.length = s.size := by simp
  have hall : _ = allL (ofB p) s.data.toList := all_seek (ofB p) s.data.toList
  rw [hl] at hall
  have hk : seekL (fun c => !ofB p c) s.data.toList 0 s.size ≤ s.size := seek_le (Nat.zero_le _)
  have hc := Lib.hid fun (u : Value) (W : World) (hu : IsClass u (fun x => !p x) W) => Try.seek_calls s 0 s.size W (Nat.zero_le _) (Nat.le_refl _) hs (fun r hr => by show (!p r) = !p 128; rw [hp r hr]) hu
  have hn := Lib.hid fun W (hu : IsClass v p W) => Try.not_calls hu
  have HV := Lib.hid hv
  obtain ⟨g, lb, rfl, _⟩ := hv
  clear hl hp
  obtain ⟨K, hK⟩ : ∃ K, seekL (ofB fun x => !p x) s.data.toList 0 s.size = K := ⟨_, rfl⟩
  have hK2 : seekL (fun c => !ofB p c) s.data.toList 0 s.size = K := hK
  rw [hK] at hc
  rw [hK2] at hall hk
  clear hK hK2
  by_cases hks : K = s.size
  · rw [decide_eq_true hks] at hall
    have HA := Lib.hid hall
    have d : (K == s.size) = true := by rw [beq_iff_eq]; exact hks
    have d2 : ((K : Int) == (s.size : Int)) = true := by rw [beq_iff_eq]; omega
    clear hall hks
    go_enter Try.func57, Try.ntmps57
    go_wp2_with (fail)
    refine (hn.out _ HV.out).mono ?_
    rintro e w1 ⟨u, rfl, hu, hb1⟩
    have HU := Lib.hid hu
    clear hu
    go_wp2_with (fail)
    refine (hc.out u w1 HU.out).mono ?_
    rintro e w2 ⟨rfl, hb2⟩
    go_wp2
    go_ret
    rw [← HA.out]
    exact ⟨rfl, hb1.trans (hb2.mono hb1.size)⟩
  · rw [decide_eq_false hks] at hall
    have HA := Lib.hid hall
    have d : (K == s.size) = false := by rw [beq_eq_false_iff_ne]; exact hks
    have d2 : ((K : Int) == (s.size : Int)) = false := by rw [beq_eq_false_iff_ne]; omega
    clear hall hks
    go_enter Try.func57, Try.ntmps57
    go_wp2_with (fail)
    refine (hn.out _ HV.out).mono ?_
    rintro e w1 ⟨u, rfl, hu, hb1⟩
    have HU := Lib.hid hu
    clear hu
    go_wp2_with (fail)
    refine (hc.out u w1 HU.out).mono ?_
    rintro e w2 ⟨rfl, hb2⟩
    go_wp2
    go_ret
    rw [← HA.out]
    exact ⟨rfl, hb1.trans (hb2.mono hb1.size)⟩

set_option maxRecDepth 100000 in
theorem Try.fits_calls {v : Value} {p : Nat → Bool} (s : ByteArray) (w : World) (hs : s.size ≤ 2000000) (hp : Flat p) (hv : IsClass v p w) :
    Calls Try.prog 52 #[.string s, v] w fun e w' => e = .returned (.bool (fitL (ofB p) s.data.toList)) ∧ Below w.heap.size w w' := by
  have hl : s.data.toList.length = s.size := by simp
  have hc := Lib.hid (Try.all_calls s w hs hp hv)
  have hf : fitL (ofB p) s.data.toList = (decide (1 ≤ s.size) && decide (s.size ≤ 40) && allL (ofB p) s.data.toList) := by unfold fitL; rw [hl]
  obtain ⟨g, lb, rfl, _⟩ := hv
  clear hl hp
  by_cases h1 : 1 ≤ s.size
  · have d1 : decide (1 ≤ (s.size : Int)) = true := decide_eq_true (by omega)
    rw [decide_eq_true h1] at hf
    by_cases h2 : s.size ≤ 40
    · have d2 : decide ((s.size : Int) ≤ 40) = true := decide_eq_true (by omega)
      rw [decide_eq_true h2, Bool.true_and, Bool.true_and] at hf
      have HF := Lib.hid hf
      clear hf h1 h2
      go_enter Try.func52, Try.ntmps52
      go_wp2_with (go_at_call 57; (with_reducible refine hc.out.mono ?_); rintro e w1 ⟨rfl, hb1⟩)
      go_ret
      rw [HF.out]
      exact ⟨rfl, hb1⟩
    · have d2 : decide ((s.size : Int) ≤ 40) = false := decide_eq_false (by omega)
      rw [decide_eq_false h2, Bool.and_false, Bool.false_and] at hf
      have HF := Lib.hid hf
      clear hf h1 h2
      go_enter Try.func52, Try.ntmps52
      go_wp2
      go_ret
      rw [HF.out]
      exact ⟨rfl, Below.refl _ _⟩
  · have d1 : decide (1 ≤ (s.size : Int)) = false := decide_eq_false (by omega)
    rw [decide_eq_false h1, Bool.false_and, Bool.false_and] at hf
    have HF := Lib.hid hf
    clear hf h1
    go_enter Try.func52, Try.ntmps52
    go_wp2
    go_ret
    rw [HF.out]
    exact ⟨rfl, Below.refl _ _⟩

theorem cells_of (W : World) (c : Array Value) (t : TypeId) (j : Nat) (u : Value) (h : c[j]? = some u) : (W.alloc (.cells c t)).cell? ⟨W.heap.size, j, none⟩ = some u := by
  unfold World.cell?
  simp only [World.alloc_heap_new]
  simpa using h
theorem Try.either3 {v1 v2 v3 : Value} {p1 p2 p3 : Nat → Bool} {w : World} (h1 : IsClass v1 p1 w) (h2 : IsClass v2 p2 w) (h3 : IsClass v3 p3 w) :
    Calls Try.prog 53 #[.slice (some ⟨w.heap.size, 0, none⟩) 3 3] (w.alloc (.cells #[v1, v2, v3] 73)) fun e w' => ∃ v', e = .returned v' ∧ IsClass v' (anyOf [p1, p2, p3]) w' ∧ Below w.heap.size w w' := by
  have hb : Below w.heap.size w (w.alloc (.cells #[v1, v2, v3] 73)) := (Below.refl _ _).alloc (Nat.le_refl _) _
  have hv : Hold (w.alloc (.cells #[v1, v2, v3] 73)) w.heap.size [p1, p2, p3] := by
    refine ⟨by simp, fun i p hp => ?_⟩
    match i, hp with
    | 0, hp => cases hp; exact ⟨v1, cells_of _ _ _ 0 _ rfl, h1.later hb⟩
    | 1, hp => cases hp; exact ⟨v2, cells_of _ _ _ 1 _ rfl, h2.later hb⟩
    | 2, hp => cases hp; exact ⟨v3, cells_of _ _ _ 2 _ rfl, h3.later hb⟩
  refine (Try.either_calls (cap := 3) (by simp) hv).mono ?_
  rintro e w' ⟨v', rfl, h4, h5⟩
  exact ⟨v', rfl, h4, hb.trans (h5.mono (by simp))⟩
theorem Try.either4 {v1 v2 v3 v4 : Value} {p1 p2 p3 p4 : Nat → Bool} {w : World} (h1 : IsClass v1 p1 w) (h2 : IsClass v2 p2 w) (h3 : IsClass v3 p3 w) (h4 : IsClass v4 p4 w) :
    Calls Try.prog 53 #[.slice (some ⟨w.heap.size, 0, none⟩) 4 4] (w.alloc (.cells #[v1, v2, v3, v4] 73)) fun e w' => ∃ v', e = .returned v' ∧ IsClass v' (anyOf [p1, p2, p3, p4]) w' ∧ Below w.heap.size w w' := by
  have hb : Below w.heap.size w (w.alloc (.cells #[v1, v2, v3, v4] 73)) := (Below.refl _ _).alloc (Nat.le_refl _) _
  have hv : Hold (w.alloc (.cells #[v1, v2, v3, v4] 73)) w.heap.size [p1, p2, p3, p4] := by
    refine ⟨by simp, fun i p hp => ?_⟩
    match i, hp with
    | 0, hp => cases hp; exact ⟨v1, cells_of _ _ _ 0 _ rfl, h1.later hb⟩
    | 1, hp => cases hp; exact ⟨v2, cells_of _ _ _ 1 _ rfl, h2.later hb⟩
    | 2, hp => cases hp; exact ⟨v3, cells_of _ _ _ 2 _ rfl, h3.later hb⟩
    | 3, hp => cases hp; exact ⟨v4, cells_of _ _ _ 3 _ rfl, h4.later hb⟩
  refine (Try.either_calls (cap := 4) (by simp) hv).mono ?_
  rintro e w' ⟨v', rfl, h5, h6⟩
  exact ⟨v', rfl, h5, hb.trans (h6.mono (by simp))⟩
#print axioms Try.all_calls
#print axioms Try.fits_calls
#print axioms Try.either4
end Go.Proofs
