/- words.seek and words.inside of this program, as contracts. Conditions: a part of a text; a class of signs that takes all of the high ones, or none. -/
import Derived.Test.YtogpnkahgkidpaaClass
import Derived.Lib.TrimU
namespace Go.Wds
theorem extract_size' (s : ByteArray) {a b : Nat} (hab : a ≤ b) (hb : b ≤ s.size) : (s.extract a b).size = b - a := by
  simp [ByteArray.size_extract]; omega
theorem extract_at (s : ByteArray) {a b j : Nat} (hj : j < (s.extract a b).size) (h : a + j < s.size) : (s.extract a b)[j]'hj = s[a + j]'h := by
  rw [ByteArray.getElem_extract]
end Go.Wds
namespace Go.Proofs
open Go.RowKit Go.Shelf Go.Wds

set_option maxRecDepth 100000 in
set_option maxHeartbeats 1000000 in
theorem Try.seek_calls {v : Value} {p : Nat → Bool} (s : ByteArray) (a b : Nat) (w : World) (hab : a ≤ b) (hbs : b ≤ s.size) (hs : s.size ≤ 2000000) (hp : Flat p) (hv : IsClass v p w) :
    Calls Try.prog 62 #[.string s, .int .i64 (a : Int), .int .i64 (b : Int), v] w fun e w' => e = .returned (.int .i64 (seekL (ofB p) s.data.toList a b : Nat)) ∧ Below w.heap.size w w' := by
  obtain ⟨g, lb, rfl, eg, hcl⟩ := hv
  obtain ⟨t, ht⟩ : ∃ t, s.extract a b = t := ⟨_, rfl⟩
  have hts := extract_size' s hab hbs
  rw [ht] at hts
  have hta : ∀ j (hj : j < t.size), ∃ h : a + j < s.size, t[j]'hj = s[a + j]'h := fun j hj => ⟨by omega, by subst ht; exact extract_at s hj (by omega)⟩
  have HT := Lib.hid hts
  have HA := Lib.hid hta
  have HCL := Lib.hid hcl
  have htm : t.size ≤ 2000000 := by omega
  clear hts hta hcl
  have hn := fun (wr : World) (pos : Nat) (ty : TypeId) hk h => Lib.run_next_any_at (P := Try.prog) wr w.heap.size t pos ty hk h
  have hend := fun (wr : World) (pos : Nat) (ty : TypeId) hk h => Lib.run_next_end_at (P := Try.prog) wr w.heap.size t pos ty hk h
  go_enter Try.func62, Try.ntmps62
  go_wp2
  go_loopw [] (fun wr => ∃ pos : Nat, wr.heap[w.heap.size]? = some (.stringIter t pos) ∧ pos ≤ t.size ∧ (∀ j (hj : j < t.size), j < pos → ofB p (t[j]'hj) = false) ∧ Below w.heap.size w wr) (fun wr => t.size - wr.iterPos w.heap.size)
  case atStart => exact ⟨0, World.iter_heap w t 0, Nat.zero_le _, fun j hj h => by omega, (Below.refl _ w).alloc (Nat.le_refl _) _⟩
  case round =>
    clear ht
    obtain ⟨pos, hit, hpos, hno, hB⟩ := hrel
    by_cases hlt : pos < t.size
    · have hn' := fun ty => hn wr pos ty hit hlt
      obtain ⟨c1, c2, c3, c4⟩ := class_step hp t pos hlt
      have hle := Lib.rune_le t pos
      obtain ⟨R, hR⟩ : ∃ R, (Utf8.decode t pos).1 = R := ⟨_, rfl⟩
      obtain ⟨K, hK⟩ : ∃ K, (Utf8.decode t pos).2 = K := ⟨_, rfl⟩
      rw [hR] at c1 c4 hle
      rw [hK] at c2 c3 c4
      rw [hR, hK] at hn'
      clear hR hK
      have hit2 := Lib.iterAt_heap wr w.heap.size t pos (pos + K) hit
      have hB2 := Lib.below_iterAt hB (k := w.heap.size) (Nat.le_refl _) t (pos + K)
      obtain ⟨W, hWd⟩ : ∃ W, wr.iterAt w.heap.size t (pos + K) = W := ⟨_, rfl⟩
      rw [hWd] at hn' hit2 hB2
      have hltW : w.heap.size < W.heap.size := (Array.getElem?_eq_some_iff.1 hit2).1
      have hc := Lib.hid (HCL.out W R hle hB2)
      cases hpr : p R with
      | true =>
        rw [hpr] at hc c1
        have hsk : seekL (ofB p) s.data.toList a b = a + pos := by
          have hts := HT.out
          obtain ⟨hx, hx2⟩ := HA.out pos hlt
          refine seek_eq (by omega) (by omega) (fun j c h1 h2 h3 => ?_) (fun _ => ⟨_, list_get s (a + pos) hx, by rw [← hx2]; exact c1.symm⟩)
          obtain ⟨hy, hy2⟩ := HA.out (j - a) (by omega)
          have h4 := hno (j - a) (by omega) (by omega)
          rw [hy2] at h4
          rw [show a + (j - a) = j from by omega] at hy
          rw [list_get s j hy] at h3
          cases h3
          have e : a + (j - a) = j := by omega
          simpa only [e] using h4
        have hsum : IntKind.i64.wrap ((a : Int) + (pos : Int)) = (a : Int) + (pos : Int) := IntWalk.i64_in _ (by omega)
        have HS := Lib.hid hsk
        clear hpr c1 c4 hn hend hno hsk
        go_wp2_with (go_at_fn g; refine hc.out.mono ?_; rintro e w1 ⟨rfl, hb1⟩)
        go_ret
        rw [HS.out]
        exact ⟨rfl, hB2.trans (hb1.mono hB2.size)⟩
      | false =>
        rw [hpr] at hc
        have hno2 : ∀ j (hj : j < t.size), j < pos + K → ofB p (t[j]'hj) = false := fun j hj h1 => by
          by_cases h2 : j < pos
          · exact hno j hj h2
          · have := c4 hpr j (by omega) h1
            rwa [get_of t j hj] at this
        have HN := Lib.hid hno2
        clear hpr c1 c4 hn hend hno hno2
        go_wp2_with (go_at_fn g; refine hc.out.mono ?_; rintro e w1 ⟨rfl, hb1⟩)
        have hit3 := (hb1.block _ hltW).trans hit2
        go_roundw
        case rel => exact ⟨pos + K, hit3, c3, HN.out, hB2.trans (hb1.mono hB2.size)⟩
        case measure => simp [World.iterPos, hit, hit3]; omega
    · have he' := fun ty => hend wr pos ty hit hlt
      have hsk : seekL (ofB p) s.data.toList a b = b := by
        have hts := HT.out
        refine seek_eq hab (Nat.le_refl _) (fun j c h1 h2 h3 => ?_) (fun h => by omega)
        obtain ⟨hy, hy2⟩ := HA.out (j - a) (by omega)
        have h4 := hno (j - a) (by omega) (by omega)
        rw [hy2] at h4
        rw [show a + (j - a) = j from by omega] at hy
        rw [list_get s j hy] at h3
        cases h3
        have e : a + (j - a) = j := by omega
        simpa only [e] using h4
      have HS := Lib.hid hsk
      clear hn hend hno hsk
      go_wp2
      go_ret
      rw [HS.out]
      exact ⟨rfl, hB⟩
#print axioms Try.seek_calls

/-- Whether two numbers are the places of a part of n bytes. -/
def inB (n : Nat) (a b : Int) : Bool := decide (0 ≤ a ∧ a ≤ b ∧ b ≤ n)
end Go.Proofs
