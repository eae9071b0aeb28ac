/- strings.IndexRune and strings.ContainsRune in this program, at a text of low bytes. Conditions: the text's bytes are all below 128; the sign is one that a decoder can tell. -/
import Derived.Test.YtogpnkahgkidpaaPlain
import Derived.Test.YtogpnkahgkidpaaShelf
import Derived.Laws.Runes
import Derived.WalkKit
import Derived.Deep.QuietTactic
import Derived.BigQuiet
import Derived.Deep.LoopGhost
import Derived.Lib.Hide
import Derived.Lib.OthersKept
import Derived.WalkMore
import Derived.LoopNIn
import Derived.OwnWalkIn
import Derived.IntWalk
namespace Go.Wds
theorem indexByte_ge (l : List UInt8) (c : UInt8) : -1 ≤ Lib.indexByte l c := by
  induction l with
  | nil => exact Int.le_refl _
  | cons b l ih =>
    unfold Lib.indexByte
    split
    · omega
    · split
      · omega
      · omega
theorem indexByte_mem (l : List UInt8) (c : UInt8) : decide (0 ≤ Lib.indexByte l c) = l.any (fun x => x == c) := by
  induction l with
  | nil => rfl
  | cons b l ih =>
    unfold Lib.indexByte
    have h1 := indexByte_ge l c
    rw [List.any_cons, ← ih]
    cases hb : b == c with
    | true => simp
    | false =>
      rw [Bool.false_or]
      by_cases h2 : Lib.indexByte l c = -1
      · simp [h2]
      · have h3 : (Lib.indexByte l c == -1) = false := by rw [beq_eq_false_iff_ne]; exact h2
        rw [if_neg (by simp), if_neg (by rw [h3]; simp), decide_eq_decide]; omega
theorem indexByte_none {l : List UInt8} {c : UInt8} (h : ∀ x ∈ l, x ≠ c) : Lib.indexByte l c = -1 := by
  have h1 := indexByte_mem l c
  have h2 := indexByte_ge l c
  have h3 : l.any (fun x => x == c) = false := by
    rw [List.any_eq_false]
    intro x hx
    simpa using h x hx
  rw [h3, decide_eq_false_iff_not] at h1
  omega
/-- A text of low bytes. -/
def Low (s : ByteArray) : Prop := ∀ x ∈ s.data.toList, x.toNat < 128
theorem Low.at {s : ByteArray} (h : Low s) (k : Nat) (hk : k < s.size) : (s[k]'hk).toNat < 128 :=
  h _ (List.mem_of_getElem? (list_get s k hk))
/-- Whether a text has a sign. -/
def has (s : ByteArray) (r : Nat) : Bool := s.data.toList.any (fun c => c.toNat == r)
theorem has_high {s : ByteArray} (h : Low s) {r : Nat} (hr : 128 ≤ r) : has s r = false := by
  unfold has
  rw [List.any_eq_false]
  intro x hx
  have := h x hx
  simp; omega
theorem has_low (s : ByteArray) {r : Nat} (hr : r < 128) : decide (0 ≤ Lib.indexByte s.data.toList (r : Int).toNat.toUInt8) = has s r := by
  rw [indexByte_mem]
  unfold has
  congr 1
  funext x
  have h1 : ((r : Int).toNat.toUInt8).toNat = r := by simp; omega
  rw [Bool.eq_iff_iff, beq_iff_eq, beq_iff_eq, ← UInt8.toNat_inj, h1]
end Go.Wds
namespace Go.Proofs
open Go.RowKit Go.Shelf Go.Wds

set_option maxRecDepth 100000 in
set_option maxHeartbeats 2000000 in
theorem Try.IndexRune_high (s : ByteArray) (r : Nat) (w : World) (hlow : Low s) (h0 : 128 ≤ r) (h1 : r ≤ 1114111) :
    Calls Try.prog 64 #[.string s, .int .i32 (r : Int)] w fun e w' => e = .returned (.int .i64 (-1)) ∧ Below w.heap.size w w' := by
  have d1 : decide ((0 : Int) ≤ (r : Int)) = true := decide_eq_true (by omega)
  have d2 : decide ((r : Int) < 128) = false := decide_eq_false (by omega)
  by_cases he : r = 65533
  · subst he
    have hn := fun (wr : World) (pos : Nat) (ty : TypeId) hk h => Lib.run_next_any_at (P := Try.prog) wr w.heap.size s pos ty hk h
    have hend := fun (wr : World) (pos : Nat) (ty : TypeId) hk h => Lib.run_next_end_at (P := Try.prog) wr w.heap.size s pos ty hk h
    clear d1 d2
    go_enter Try.func64, Try.ntmps64
    go_wp2
    go_loopw [] (fun wr => ∃ pos : Nat, wr.heap[w.heap.size]? = some (.stringIter s pos) ∧ pos ≤ s.size ∧ Below w.heap.size w wr) (fun wr => s.size - wr.iterPos w.heap.size)
    case atStart => exact ⟨0, World.iter_heap w s 0, Nat.zero_le _, (Below.refl _ w).alloc (Nat.le_refl _) _⟩
    case round =>
      obtain ⟨pos, hit, hpos, hB⟩ := hrel
      by_cases hlt : pos < s.size
      · have hn' := fun ty => hn wr pos ty hit hlt
        have hl := hlow.at pos hlt
        rw [decode_ascii s pos hlt hl] at hn'
        have hne : (((s[pos]'hlt).toNat : Int) == 65533) = false := by rw [beq_eq_false_iff_ne]; omega
        have hit2 := Lib.iterAt_heap wr w.heap.size s pos (pos + 1) hit
        have hB2 := Lib.below_iterAt hB (k := w.heap.size) (Nat.le_refl _) s (pos + 1)
        clear hn hend hl hlow
        go_wp2
        go_roundw
        case rel => exact ⟨pos + 1, hit2, by omega, hB2⟩
        case measure => simp [World.iterPos, hit, hit2]; omega
      · have he' := fun ty => hend wr pos ty hit hlt
        clear hn hend hlow
        go_wp2
        go_ret
        exact ⟨rfl, hB⟩
  · have d3 : ((r : Int) == 65533) = false := by rw [beq_eq_false_iff_ne]; omega
    cases hv : Lib.validRune (r : Int) with
    | false =>
      have hc := Lib.hid (Try.utf8_ValidRune (r : Int))
      rw [hv] at hc
      clear he
      go_enter Try.func64, Try.ntmps64
      go_wp2_with (go_at_call 67; (with_reducible refine (hc.out _).mono ?_); rintro e w' ⟨rfl, rfl⟩)
      go_ret
      exact ⟨rfl, Below.refl _ _⟩
    | true =>
      have hc := Lib.hid (Try.utf8_ValidRune (r : Int))
      rw [hv] at hc
      have hval : Utf8.valid (r : Int) = true := by
        simp only [Lib.validRune, Utf8.valid] at hv ⊢
        simp at hv ⊢
        omega
      obtain ⟨e1, e2, e3⟩ := encode_facts (r : Int) hval (by omega)
      obtain ⟨E, hE⟩ : ∃ E, Utf8.encode (r : Int) = E := ⟨_, rfl⟩
      rw [hE] at e1 e2 e3
      have E3 := Lib.hid (e3 (by omega))
      obtain ⟨n, hn⟩ : ∃ n, E.size = n + 1 := ⟨E.size - 1, by omega⟩
      have HN := Lib.hid hn
      have hb0 : ((E.size : Int) - 1) = (n : Int) := by omega
      have hn3 : n ≤ 3 := by omega
      clear he hv hval e3 hn
      go_enter Try.func64, Try.ntmps64
      go_wp2_with (go_at_call 67; (with_reducible refine (hc.out _).mono ?_); rintro e w' ⟨rfl, rfl⟩)
      clear hc d1 d2 d3
      go_step3
      go_wp2
      clear hE
      clear hb0
      go_loopw [9] (fun i wr => i = .int .i64 (n : Int) ∧ wr = w') (fun _ _ => 0)
      case atStart => exact ⟨rfl, rfl⟩
      case round =>
        obtain ⟨rfl, rfl⟩ := hrel
        have hkE : n < E.size := by have := HN.out; omega
        by_cases hk : n < s.size
        · have h4 : 128 ≤ (E[n]'hkE).toNat := by
            have h := E3.out
            simpa only [HN.out, Nat.add_sub_cancel] using h
          have hne : (((s[n]'hk).toNat : Int) != ((E[n]'hkE).toNat : Int)) = true := by
            rw [bne_iff_ne]
            have h3 := hlow.at _ hk
            omega
          have hi : ∀ W : World, Calls Try.prog 66 #[.string (s.extract (n + 1) s.size), .int .u8 ((E[n]'hkE).toNat : Int)] W fun e w' => e = .returned (.int .i64 (-1)) ∧ w' = W := by
            intro W
            have h := Try.strings_IndexByte (s.extract (n + 1) s.size) ((E[n]'hkE).toNat : Int) W
            rw [indexByte_none] at h
            · exact h
            · intro x hx e
              have h5 : x ∈ s.data.toList := by
                simp only [ByteArray.data_extract, Array.toList_extract, List.extract_eq_take_drop] at hx
                exact List.mem_of_mem_drop (List.mem_of_mem_take hx)
              have h6 := hlow x h5
              subst e
              simp at h6
              omega
          have w1 : IntKind.i64.wrap ((n : Int) + 1) = (n : Int) + 1 := IntWalk.i64_in _ (by omega)
          have w2 : ((n : Int) + 1).toNat = n + 1 := by omega
          have hx1 : (n : Int) < (s.size : Int) := by omega
          have hx2 : (n : Int) < (E.size : Int) := by omega
          have hx3 : (n : Int) + 1 ≤ (s.size : Int) := by omega
          have hx4 : (0 : Int) ≤ (n : Int) + 1 := by omega
          have hx5 : n + 1 ≤ s.size := by omega
          have hi2 := Lib.hid hi
          clear hi E3 hlow h4
          go_wp2
          go_step3
          go_wp2
          go_quiet (fail)
          obtain ⟨V, hV⟩ : ∃ V, V = wr.drewN nq := ⟨_, rfl⟩
          rw [← hV]
          have hBV : Below wr.heap.size wr V := by rw [hV]; exact ⟨rfl, rfl, rfl, Nat.le_refl _, fun _ _ => rfl⟩
          clear hV
          go_wp2
          go_quiet ((go_at_call 66; exact Calls.quiet_of_same (hi2.out _)))
          go_wp2
          try rw [Exit.noGoto_ret]
          simp only [Exit.inBlock]
          go_wp2
          try rw [Exit.noGoto_ret]
          go_ret
          exact ⟨rfl, hBV.trans ⟨rfl, rfl, rfl, Nat.le_refl _, fun _ _ => rfl⟩⟩
        · clear E3 hlow
          go_wp2
          try rw [Exit.noGoto_ret]
          go_ret
          exact ⟨rfl, Below.refl _ _⟩

set_option maxRecDepth 100000 in
theorem Try.ContainsRune_calls (s : ByteArray) (r : Nat) (w : World) (hlow : Low s) (h1 : r ≤ 1114111) :
    Calls Try.prog 61 #[.string s, .int .i32 (r : Int)] w fun e w' => e = .returned (.bool (has s r)) ∧ Below w.heap.size w w' := by
  by_cases h : r < 128
  · refine (Try.strings_ContainsRune_ascii s (r : Int) w (by omega) (by omega)).mono ?_
    rintro e w' ⟨rfl, rfl⟩
    exact ⟨by rw [has_low s h], Below.refl _ _⟩
  · have hc := Lib.hid fun w => Try.IndexRune_high s r w hlow (by omega) h1
    have hf := Lib.hid (has_high hlow (show 128 ≤ r by omega))
    clear h h1 hlow
    go_enter Try.func61, Try.ntmps61
    go_wp2_with (go_at_call 64; (with_reducible refine (hc.out _).mono ?_); rintro e w1 ⟨rfl, hb⟩)
    go_ret
    rw [hf.out]
    exact ⟨rfl, hb⟩
#print axioms Try.IndexRune_high
#print axioms Try.ContainsRune_calls
end Go.Proofs
