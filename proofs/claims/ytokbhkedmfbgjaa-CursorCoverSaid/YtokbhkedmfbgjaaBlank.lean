/- cursor.Blank of this program at a part of a text. Conditions: the part lies in the text. -/
import Derived.Test.YtokbhkedmfbgjaaLines
namespace Go.Cur
def blankL (l : List UInt8) : Bool := l.all fun c => c == 32 || c == 9
/-- The bytes from a up to b. -/
def cutL (l : List UInt8) (a b : Nat) : List UInt8 := l.extract a b
theorem blank_decode (s : ByteArray) (pos : Nat) (h : pos < s.size) :
    (((Utf8.decode s pos).1 = 32 ∨ (Utf8.decode s pos).1 = 9) → (s[pos]'h == 32 || s[pos]'h == 9) = true ∧ (Utf8.decode s pos).2 = 1) ∧
    (((Utf8.decode s pos).1 ≠ 32 ∧ (Utf8.decode s pos).1 ≠ 9) → (s[pos]'h == 32 || s[pos]'h == 9) = false) := by
  by_cases ha : (s[pos]'h).toNat < 128
  · rw [decode_ascii s pos h ha]
    constructor
    · rintro (e | e)
      · have : s[pos]'h = 32 := UInt8.toNat_inj.1 e
        simp [this]
      · have : s[pos]'h = 9 := UInt8.toNat_inj.1 e
        simp [this]
    · rintro ⟨e1, e2⟩
      have h1 : s[pos]'h ≠ 32 := fun e => e1 (by rw [e]; rfl)
      have h2 : s[pos]'h ≠ 9 := fun e => e2 (by rw [e]; rfl)
      simp [h1, h2]
  · have hh := decode_high s pos h (by omega)
    refine ⟨fun e => by omega, fun _ => ?_⟩
    have h1 : s[pos]'h ≠ 32 := fun e => ha (by rw [e]; decide)
    have h2 : s[pos]'h ≠ 9 := fun e => ha (by rw [e]; decide)
    simp [h1, h2]
theorem blankL_drop (l : List UInt8) (p : Nat) (c : UInt8) (h : l[p]? = some c) : blankL (l.drop p) = ((c == 32 || c == 9) && blankL (l.drop (p + 1))) := by
  obtain ⟨hp, rfl⟩ := List.getElem?_eq_some_iff.1 h
  rw [List.drop_eq_getElem_cons hp]; rfl
theorem extract_list (s : ByteArray) (a b : Nat) : (s.extract a b).data.toList = cutL s.data.toList a b := by
  rw [ByteArray.data_extract, Array.toList_extract]; rfl
end Go.Cur
namespace Go.Proofs
open Go.RowKit Go.Shelf Go.Cur

set_option maxHeartbeats 400000 in
theorem Try.blank_calls (r : Int) (w : World) :
    Calls Try.prog 24 #[.int .i32 r] w fun e w' => e = .returned (.bool (r == 32 || r == 9)) ∧ w = w' := by
  by_cases h1 : r = 32
  · subst h1
    go_enter Try.func24, Try.ntmps24
    go_wp2
    go_ret
    exact ⟨rfl, rfl⟩
  · have h1' : (r == 32) = false := beq_eq_false_iff_ne.2 h1
    have e : (r == 32 || r == 9) = (r == 9) := by rw [h1', Bool.false_or]
    rw [e]
    clear e h1
    go_enter Try.func24, Try.ntmps24
    go_wp2
    go_ret
    exact ⟨rfl, rfl⟩

set_option maxRecDepth 100000 in
set_option maxHeartbeats 1000000 in
theorem Try.Blank_calls (s : ByteArray) (a b c : Nat) (w : World) (hab : a ≤ b) (hbl : b ≤ s.size) :
    Calls Try.prog 16 #[.string s, .agg #[.int .i64 (a : Nat), .int .i64 (b : Nat), .int .i64 (c : Nat)]] w fun e w' => e = .returned (.bool (blankL (cutL s.data.toList a b))) ∧ Below w.heap.size w w' := by
  have g1 : decide ((a : Int) < 0) = false := decide_eq_false (by omega)
  have g2 : decide ((b : Int) < (a : Int)) = false := decide_eq_false (by omega)
  have g3 : decide ((s.size : Int) < (b : Int)) = false := decide_eq_false (by omega)
  have g4 : decide (b < a) = false := decide_eq_false (by omega)
  have g5 : decide (s.size < b) = false := decide_eq_false (by omega)
  have hn := fun (wr : World) (pos : Nat) (ty : TypeId) hk h => Lib.run_next_any_at (P := Try.prog) wr (w.heap.size + 1) (s.extract a b) pos ty hk h
  have he := fun (wr : World) (pos : Nat) (ty : TypeId) hk h => Lib.run_next_end_at (P := Try.prog) wr (w.heap.size + 1) (s.extract a b) pos ty hk h
  go_enter Try.func16, Try.ntmps16
  go_wp2
  go_loopw [6] (fun _ wr => ∃ pos : Nat, wr.heap[w.heap.size + 1]? = some (.stringIter (s.extract a b) pos) ∧ pos ≤ (s.extract a b).size ∧ Below w.heap.size w wr ∧ blankL (cutL s.data.toList a b) = blankL ((s.extract a b).data.toList.drop pos))
    (fun _ wr => (s.extract a b).size - wr.iterPos (w.heap.size + 1))
  case atStart =>
    refine ⟨0, ?_, Nat.zero_le _, ((Below.refl _ w).alloc (Nat.le_refl _) _).alloc (by simp) _, by rw [extract_list]; rfl⟩
    have := World.alloc_heap_new (w.alloc (Obj.cells #[Value.int IntKind.i64 (a : Nat), Value.int IntKind.i64 (b : Nat), Value.int IntKind.i64 (c : Nat)] 31)) (.stringIter (s.extract a b) 0)
    rwa [World.size_alloc] at this
  case round =>
    obtain ⟨pos, hit, hpos, hB, hbk⟩ := hrel
    generalize s.extract a b = x at *
    by_cases hlt : pos < x.size
    · have hdec := blank_decode x pos hlt
      have hle := decode_le x pos
      have hn' := fun ty => hn wr pos ty hit hlt
      rw [blankL_drop _ _ _ (list_get x pos hlt)] at hbk
      have hit2 := fun p => Lib.iterAt_heap wr (w.heap.size + 1) x pos p hit
      obtain ⟨r, hr⟩ : ∃ r, r = (Utf8.decode x pos).1 := ⟨_, rfl⟩
      obtain ⟨wd, hw⟩ : ∃ wd, wd = (Utf8.decode x pos).2 := ⟨_, rfl⟩
      rw [← hr] at hdec hle hn'
      rw [← hw] at hdec hn'
      by_cases hb : r = 32 ∨ r = 9
      · obtain ⟨hd1, hd2⟩ := hdec.1 hb
        rw [hd1, Bool.true_and] at hbk
        rw [hd2] at hn'
        have hbb : (((r : Nat) : Int) == 32 || ((r : Nat) : Int) == 9) = true := by
          rcases hb with rfl | rfl <;> rfl
        have hit3 := hit2 (pos + 1)
        have hB2 := Lib.below_iterAt hB (show w.heap.size ≤ w.heap.size + 1 by omega) x (pos + 1)
        have Hb := Lib.hid hbk
        have HB := Lib.hid hbb
        clear hdec hn he hr hw hbk hb hd1 hd2 hit2 hbb
        go_wp2_with (go_at_call 24; refine (Try.blank_calls _ _).mono ?_; rw [HB.out]; rintro e w' ⟨rfl, rfl⟩)
        go_roundw
        case rel => exact ⟨pos + 1, hit3, by omega, hB2, Hb.out⟩
        case measure => simp [World.iterPos, hit, hit3]; omega
      · have hd1 := hdec.2 ⟨fun e => hb (.inl e), fun e => hb (.inr e)⟩
        rw [hd1, Bool.false_and] at hbk
        have hbb : (((r : Nat) : Int) == 32 || ((r : Nat) : Int) == 9) = false := by
          rw [Bool.or_eq_false_iff]; constructor <;> (rw [beq_eq_false_iff_ne]; omega)
        have hB2 := fun p => Lib.below_iterAt hB (show w.heap.size ≤ w.heap.size + 1 by omega) x p
        have Hb := Lib.hid hbk
        have HB := Lib.hid hbb
        have HB2 := Lib.hid hB2
        clear hdec hn he hr hw hbk hb hd1 hbb hit2 hB2
        go_wp2_with (go_at_call 24; refine (Try.blank_calls _ _).mono ?_; rw [HB.out]; rintro e w' ⟨rfl, rfl⟩)
        go_ret
        rw [Hb.out]
        exact ⟨rfl, HB2.out _⟩
    · have hpe : pos = x.data.toList.length := by simp; omega
      have he' := fun ty => he wr pos ty hit hlt
      rw [hpe, List.drop_length] at hbk
      have Hb := Lib.hid hbk
      clear hn he hbk hpe
      go_wp2
      go_ret
      rw [Hb.out]
      exact ⟨rfl, hB⟩
#print axioms Try.Blank_calls
end Go.Proofs
