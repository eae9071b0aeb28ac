/- words.Upper of this program, and the document's own, as contracts. Conditions: a text of at most two million bytes. -/
import Derived.Test.YtlgdhopiifoikaaNames
import Derived.Lib.ConvBytes
import Derived.Lib.TrimU
import Derived.Laws.IdiomStrings
namespace Go.Wds
open Go.Proofs
/-- The capital of a small letter; any other byte. -/
def up (c : UInt8) : UInt8 := if 97 ≤ c.toNat ∧ c.toNat ≤ 122 then c - 32 else c
/-- A text with capitals for its small letters. -/
def upS (s : ByteArray) : ByteArray := ⟨(s.data.toList.map up).toArray⟩
/-- So, in the first n bytes. -/
def upTo (l : List UInt8) (n : Nat) : List UInt8 := (l.take n).map up ++ l.drop n
theorem upTo_len (l : List UInt8) (n : Nat) : (upTo l n).length = l.length := by unfold upTo; simp; omega
theorem upTo_get (l : List UInt8) (n j : Nat) : (upTo l n)[j]? = if j < n then l[j]?.map up else l[j]? := by
  unfold upTo
  by_cases h : j < n
  · rw [if_pos h]
    by_cases h2 : j < l.length
    · rw [List.getElem?_append_left (by simp; omega), List.getElem?_map, List.getElem?_take_of_lt h]
    · rw [List.getElem?_append_right (by simp; omega), List.getElem?_eq_none (by simp; omega), List.getElem?_eq_none (by omega)]; rfl
  · rw [if_neg h, List.getElem?_append_right (by simp; omega), List.getElem?_drop]
    by_cases h2 : n ≤ l.length
    · congr 1; simp; omega
    · rw [List.getElem?_eq_none (by omega), List.getElem?_eq_none (by omega)]
theorem upTo_zero (l : List UInt8) : upTo l 0 = l := by unfold upTo; simp
theorem upTo_all (l : List UInt8) : upTo l l.length = l.map up := by unfold upTo; simp
theorem upTo_skip {l : List UInt8} {n k : Nat} (h : ∀ j c, n ≤ j → j < n + k → l[j]? = some c → up c = c) : upTo l (n + k) = upTo l n := by
  apply List.ext_getElem?
  intro j
  rw [upTo_get, upTo_get]
  by_cases h1 : j < n
  · rw [if_pos (by omega), if_pos h1]
  · rw [if_neg h1]
    by_cases h2 : j < n + k
    · rw [if_pos h2]
      cases hc : l[j]? with
      | none => rfl
      | some c => rw [Option.map_some, h j c (by omega) h2 hc]
    · rw [if_neg h2]
theorem upTo_one {l : List UInt8} {n : Nat} {c : UInt8} (h : l[n]? = some c) (hc : up c = c) : upTo l (n + 1) = upTo l n :=
  upTo_skip fun j d h1 h2 h3 => by
    have e : j = n := by omega
    subst e
    rw [h] at h3
    cases h3
    exact hc
theorem upTo_set {l : List UInt8} {n : Nat} {c : UInt8} (h : l[n]? = some c) : upTo l (n + 1) = (upTo l n).set n (up c) := by
  apply List.ext_getElem?
  intro j
  rw [List.getElem?_set, upTo_get, upTo_get]
  have hn : n < l.length := (List.getElem?_eq_some_iff.1 h).1
  by_cases e : n = j
  · subst e
    rw [if_pos rfl, if_pos (by omega), if_pos (by rw [upTo_len]; exact hn), h]; rfl
  · rw [if_neg e]
    by_cases h1 : j < n
    · rw [if_pos (by omega), if_pos h1]
    · rw [if_neg (by omega), if_neg h1]
theorem up_keep {c : UInt8} (h : ¬ (97 ≤ c.toNat ∧ c.toNat ≤ 122)) : up c = c := by unfold up; rw [if_neg h]
theorem up_small {c : UInt8} (h : 97 ≤ c.toNat ∧ c.toNat ≤ 122) : ((up c).toNat : Int) = (c.toNat : Int) - 32 := by
  unfold up; rw [if_pos h, UInt8.toNat_sub_of_le _ _ (by rw [UInt8.le_iff_toNat_le]; show 32 ≤ _; omega)]
  show ((c.toNat - 32 : Nat) : Int) = _
  omega
end Go.Wds
namespace Go.Proofs
open Go.RowKit Go.Shelf Go.Wds

/-- The block b holds the bytes l, and they may be written. -/
def HasBytes (W : World) (b : Nat) (l : List UInt8) : Prop :=
  b < W.heap.size ∧ ∀ j c, l[j]? = some c → W.cell? ⟨b, j, none⟩ = some (.int .u8 (c.toNat : Int)) ∧ W.frozen? ⟨b, j, none⟩ = false
theorem HasBytes.later {W W' : World} {b n : Nat} {l : List UInt8} (h : HasBytes W b l) (hb : Below n W W') (hn : b < n) : HasBytes W' b l :=
  ⟨Nat.lt_of_lt_of_le h.1 hb.size, fun j c hc => by
    obtain ⟨h1, h2⟩ := h.2 j c hc
    exact ⟨(hb.cell (p := ⟨b, j, none⟩) hn).trans h1, (hb.frozen (p := ⟨b, j, none⟩) hn).trans h2⟩⟩
theorem HasBytes.block {W W' : World} {b : Nat} {l : List UInt8} (h : HasBytes W b l) (hs : W.heap.size ≤ W'.heap.size) (hb : W'.heap[b]? = W.heap[b]?) : HasBytes W' b l :=
  ⟨Nat.lt_of_lt_of_le h.1 hs, fun j c hc => by
    obtain ⟨h1, h2⟩ := h.2 j c hc
    exact ⟨(World.cell?_of_block (a := ⟨b, j, none⟩) hb).trans h1, (World.frozen?_of_block (a := ⟨b, j, none⟩) hb).trans h2⟩⟩
theorem HasBytes.set {W : World} {b : Nat} {l : List UInt8} (h : HasBytes W b l) (k : Nat) (d : UInt8) : HasBytes (W.setCell ⟨b, k, none⟩ (.int .u8 (d.toNat : Int))) b (l.set k d) := by
  refine ⟨by simpa using h.1, fun j c hc => ?_⟩
  rw [List.getElem?_set] at hc
  rw [World.frozen?_setCell]
  by_cases e : k = j
  · subst e
    rw [if_pos rfl] at hc
    split at hc
    · rename_i hk
      cases hc
      obtain ⟨h1, h2⟩ := h.2 k _ (List.getElem?_eq_getElem hk)
      exact ⟨World.cell?_setCell_same _ _ _ h1, h2⟩
    · cases hc
  · rw [if_neg e] at hc
    obtain ⟨h1, h2⟩ := h.2 j c hc
    exact ⟨(World.cell?_setCell_other _ _ _ _ (fun h => e (by injection h))).trans h1, h2⟩
theorem hasBytes_new (w : World) (e : TypeId) (s : ByteArray) : HasBytes (Lib.bytesWorld w e s) w.heap.size s.data.toList := by
  refine ⟨by rw [Lib.bytesWorld_size]; omega, fun j c hc => ?_⟩
  have hj : j < s.size := by simpa using (List.getElem?_eq_some_iff.1 hc).1
  have h1 := Lib.bytesWorld_cell w e s j hj
  rw [List.getD_eq_getElem?_getD, hc] at h1
  refine ⟨h1, ?_⟩
  unfold World.frozen?
  simp only [Lib.bytesWorld_at_new]
  have : s.size ≤ (Lib.bytesCells w e s).size := by simp [Lib.bytesCells]
  simp; omega
theorem below_bytes (w : World) (e : TypeId) (s : ByteArray) : Below w.heap.size w (Lib.bytesWorld w e s) :=
  ⟨by unfold Lib.bytesWorld World.freeze; rw [if_neg (by decide)]; rfl, by unfold Lib.bytesWorld World.freeze; rw [if_neg (by decide)]; rfl, by unfold Lib.bytesWorld World.freeze; rw [if_neg (by decide)]; rfl, by rw [Lib.bytesWorld_size]; omega, fun k hk => Lib.bytesWorld_at_old w e s k hk⟩
theorem HasBytes.back {W : World} {b : Nat} {l : List UInt8} (h : HasBytes W b l) (cap : Nat) :
    (convert 41 9 (.slice (some ⟨b, 0, none⟩) l.length cap)).run Try.prog W = .ok (.string ⟨l.toArray⟩) W :=
  run_convert_bytes_back W 41 9 5 ⟨b, 0, none⟩ cap l Try.underlying41 Try.underlying5 Try.underlying9 (fun j hj => by
    have := (h.2 j _ (List.getElem?_eq_getElem hj)).1
    have e : ((⟨b, 0, none⟩ : Addr).add j) = ⟨b, j, none⟩ := by
      unfold Addr.add
      split
      · rename_i h0; rw [h0]
      · simp
    rw [e]; exact this)

set_option maxRecDepth 100000 in
set_option maxHeartbeats 1000000 in
theorem Try.rUpper_calls (s : ByteArray) (w : World) (hs : s.size ≤ 2000000) :
    Calls Try.prog 20 #[.string s] w fun e w' => e = .returned (.string (upS s)) ∧ Below w.heap.size w w' := by
  have HL := Lib.hid (show s.data.toList.length = s.size by simp)
  have kb := fun w : World => Lib.run_convert_string_bytes (P := Try.prog) w 9 41 5 s Try.underlying9 Try.underlying41 Try.underlying5
  have V1 := Lib.hid (hasBytes_new w 5 s)
  have V2 := Lib.hid (below_bytes w 5 s)
  go_enter Try.func20, Try.ntmps20
  go_wp2
  generalize grownCap w s.size 0 5 = cap
  go_loopw [4] (fun i wr => ∃ k : Nat, i = .int .i64 (k : Int) ∧ k ≤ s.size ∧ HasBytes wr w.heap.size (upTo s.data.toList k) ∧ Below w.heap.size w wr) (fun i _ => s.size - (intOf i).toNat)
  case atStart => exact ⟨0, rfl, Nat.zero_le _, by rw [upTo_zero]; exact V1.out, V2.out⟩
  case round =>
    obtain ⟨k, rfl, hk, hby, hB⟩ := hrel
    by_cases hlt : k < s.size
    · have hg := list_get s k hlt
      obtain ⟨x0, f0⟩ := hby.2 k (s[k]'hlt) (by rw [upTo_get, if_neg (by omega)]; exact hg)
      by_cases h1 : 97 ≤ (s[k]'hlt).toNat
      · have d1 : decide ((97 : Int) ≤ ((s[k]'hlt).toNat : Int)) = true := decide_eq_true (by omega)
        by_cases h2 : (s[k]'hlt).toNat ≤ 122
        · have d2 : decide (((s[k]'hlt).toNat : Int) ≤ 122) = true := decide_eq_true (by omega)
          have hset := hby.set k (up (s[k]'hlt))
          rw [← upTo_set hg, up_small ⟨h1, h2⟩] at hset
          have HS := Lib.hid hset
          have b1 : (97 : Int) ≤ ((s[k]'hlt).toNat : Int) := by omega
          have b2 : ((s[k]'hlt).toNat : Int) ≤ 122 := by omega
          clear hset hg hby
          go_wp2
          go_roundw
          case rel => exact ⟨k + 1, by go_num, by omega, HS.out, hB.setCell (Nat.le_refl _) _⟩
          case measure => simp [intOf]; omega
        · have d2 : decide (((s[k]'hlt).toNat : Int) ≤ 122) = false := decide_eq_false (by omega)
          have hby2 := Lib.hid hby
          have HU := Lib.hid (upTo_one hg (up_keep (c := s[k]'hlt) (by omega)))
          clear hg hby
          go_wp2
          go_roundw
          case rel => exact ⟨k + 1, by go_num, by omega, by rw [HU.out]; exact hby2.out, hB⟩
          case measure => simp [intOf]; omega
      · have d1 : decide ((97 : Int) ≤ ((s[k]'hlt).toNat : Int)) = false := decide_eq_false (by omega)
        have hby2 := Lib.hid hby
        have HU := Lib.hid (upTo_one hg (up_keep (c := s[k]'hlt) (by omega)))
        clear hg hby
        go_wp2
        go_roundw
        case rel => exact ⟨k + 1, by go_num, by omega, by rw [HU.out]; exact hby2.out, hB⟩
        case measure => simp [intOf]; omega
    · have hkk : k = s.size := by omega
      subst hkk
      have hb := hby.back cap
      rw [upTo_len, HL.out] at hb
      have he : upTo s.data.toList s.size = s.data.toList.map up := by rw [← HL.out]; exact upTo_all _
      rw [he] at hb
      clear hby he
      change _ = Result.ok (Value.string (upS s)) _ at hb
      go_wp2
      go_ret
      exact ⟨rfl, hB⟩

set_option maxRecDepth 100000 in
set_option maxHeartbeats 1000000 in
theorem Try.Upper_calls (s : ByteArray) (w : World) (_hs : s.size ≤ 2000000) :
    Calls Try.prog 19 #[.string s] w fun e w' => e = .returned (.string (upS s)) ∧ Below w.heap.size w w' := by
  have HL := Lib.hid (show s.data.toList.length = s.size by simp)
  have kb := fun w : World => Lib.run_convert_string_bytes (P := Try.prog) w 9 41 5 s Try.underlying9 Try.underlying41 Try.underlying5
  have hfl : Flat (between 97 122) := flat_between (by decide)
  have HF := Lib.hid hfl
  clear hfl
  go_enter Try.func19, Try.ntmps19
  go_wp2_with (fail)
  refine (Try.spanaz _).mono ?_
  rintro e w1 ⟨v, rfl, hv, hb1⟩
  have HV := Lib.hid hv
  obtain ⟨g, lb, rfl, eg, _⟩ := hv
  have hv1 := hasBytes_new w1 5 s
  have hv2 := below_bytes w1 5 s
  have hv3 := Lib.bytesWorld_size w1 5 s
  obtain ⟨V, hV⟩ : ∃ V, Lib.bytesWorld w1 5 s = V := ⟨_, rfl⟩
  rw [hV] at hv1 hv2 hv3
  have V1 := Lib.hid hv1
  have V2 := Lib.hid hv2
  have V3 := Lib.hid hv3
  clear hv1 hv2 hv3
  go_wp2
  clear hV kb
  generalize grownCap w1 s.size 0 5 = cap
  have hn := fun (wr : World) (pos : Nat) (ty : TypeId) hk h => Lib.run_next_any_at (P := Try.prog) wr V.heap.size s pos ty hk h
  have hend := fun (wr : World) (pos : Nat) (ty : TypeId) hk h => Lib.run_next_end_at (P := Try.prog) wr V.heap.size s pos ty hk h
  go_loopw [] (fun wr => ∃ pos : Nat, wr.heap[V.heap.size]? = some (.stringIter s pos) ∧ pos ≤ s.size ∧ HasBytes wr w1.heap.size (upTo s.data.toList pos) ∧ Below w1.heap.size w1 wr) (fun wr => s.size - wr.iterPos V.heap.size)
  case atStart =>
    have h0 := V3.out
    exact ⟨0, World.iter_heap V s 0, Nat.zero_le _, by rw [upTo_zero]; exact V1.out.later ((Below.refl V.heap.size V).alloc (Nat.le_refl _) _) (by omega), V2.out.alloc V2.out.size _⟩
  case round =>
    obtain ⟨pos, hit, hpos, hby, hB⟩ := hrel
    have h0 := V3.out
    by_cases hlt : pos < s.size
    · have hn' := fun ty => hn wr pos ty hit hlt
      have hg := list_get s pos hlt
      by_cases hsm : 97 ≤ (s[pos]'hlt).toNat ∧ (s[pos]'hlt).toNat ≤ 122
      · rw [decode_ascii s pos hlt (by omega)] at hn'
        have hit2 := Lib.iterAt_heap wr V.heap.size s pos (pos + 1) hit
        have hB2 := Lib.below_iterAt hB (k := V.heap.size) (by omega) s (pos + 1)
        have hby2 := hby.later (Lib.below_iterAt (Below.refl V.heap.size wr) (k := V.heap.size) (Nat.le_refl _) s (pos + 1)) (by omega)
        obtain ⟨W, hWd⟩ : ∃ W, wr.iterAt V.heap.size s (pos + 1) = W := ⟨_, rfl⟩
        simp only at hn'
        rw [hWd] at hn' hit2 hB2 hby2
        have hltW : V.heap.size < W.heap.size := (Array.getElem?_eq_some_iff.1 hit2).1
        obtain ⟨g', lb', e1, _, hcl⟩ := HV.out
        cases e1
        have hc := hcl W (s[pos]'hlt).toNat (by omega) hB2
        rw [show between 97 122 (s[pos]'hlt).toNat = true by unfold between; rw [decide_eq_true hsm.1, decide_eq_true hsm.2]; rfl] at hc
        have hC := Lib.hid hc
        have hy2 := Lib.hid hby2
        have HU := Lib.hid (upTo_set hg)
        have HP := Lib.hid (up_small hsm)
        have hgg := Lib.hid (show (upTo s.data.toList pos)[pos]? = some (s[pos]'hlt) by rw [upTo_get, if_neg (by omega)]; exact hg)
        have b1 : (97 : Int) ≤ ((s[pos]'hlt).toNat : Int) := by omega
        have b2 : ((s[pos]'hlt).toNat : Int) ≤ 122 := by omega
        have bs : w1.heap.size < W.heap.size := by omega
        clear hn hend hc hcl hby2 hby hg hsm h0
        go_wp2_with (go_at_fn g; refine hC.out.mono ?_; rintro e W3 ⟨rfl, hb3⟩; have hy3 := hy2.out.later hb3 bs; have hx := hy3.2 pos _ hgg.out; have x0 := hx.1; have f0 := hx.2; have HY := Lib.hid hy3; clear hx hy3)
        have hset := HY.out.set pos (up (s[pos]'hlt))
        rw [← HU.out, HP.out] at hset
        have hit3 := (hb3.block _ hltW).trans hit2
        have hit4 : (W3.setCell ⟨w1.heap.size, pos, none⟩ (.int .u8 (((s[pos]'hlt).toNat : Int) - 32))).heap[V.heap.size]? = some (.stringIter s (pos + 1)) := by
          rw [Below.heap_setCell _ _ _ _ (by have := V3.out; simp; omega)]; exact hit3
        go_roundw
        case rel => exact ⟨pos + 1, hit4, by omega, hset, (hB2.trans (hb3.mono hB2.size)).setCell (Nat.le_refl _) _⟩
        case measure => simp [World.iterPos, hit, hit4]; omega
      · obtain ⟨c1, c2, c3, c4⟩ := class_step HF.out s pos hlt
        have hle := Lib.rune_le s pos
        have hfl : ofB (between 97 122) (s[pos]'hlt) = false := by
          unfold ofB between
          rw [Bool.and_eq_false_iff, decide_eq_false_iff_not, decide_eq_false_iff_not]
          omega
        rw [hfl] at c1
        have c5 := c4 c1
        obtain ⟨R, hR⟩ : ∃ R, (Utf8.decode s pos).1 = R := ⟨_, rfl⟩
        obtain ⟨K, hK⟩ : ∃ K, (Utf8.decode s pos).2 = K := ⟨_, rfl⟩
        rw [hR] at c1 hle
        rw [hK] at c2 c3 c5
        rw [hR, hK] at hn'
        clear hR hK c4
        have HU := Lib.hid (upTo_skip (l := s.data.toList) (n := pos) (k := K) (fun j c h1 h2 h3 => by
          have h4 := c5 j h1 h2
          rw [get_of s j (by omega)] at h4
          rw [list_get s j (by omega)] at h3
          cases h3
          refine up_keep fun h5 => ?_
          unfold ofB between at h4
          rw [decide_eq_true h5.1, decide_eq_true h5.2] at h4
          cases h4))
        have hit2 := Lib.iterAt_heap wr V.heap.size s pos (pos + K) hit
        have hB2 := Lib.below_iterAt hB (k := V.heap.size) (by omega) s (pos + K)
        have hby2 := hby.later (Lib.below_iterAt (Below.refl V.heap.size wr) (k := V.heap.size) (Nat.le_refl _) s (pos + K)) (by omega)
        obtain ⟨W, hWd⟩ : ∃ W, wr.iterAt V.heap.size s (pos + K) = W := ⟨_, rfl⟩
        rw [hWd] at hn' hit2 hB2 hby2
        have hltW : V.heap.size < W.heap.size := (Array.getElem?_eq_some_iff.1 hit2).1
        obtain ⟨g', lb', e1, _, hcl⟩ := HV.out
        cases e1
        have hc := hcl W R hle hB2
        rw [c1] at hc
        have hC := Lib.hid hc
        have hy2 := Lib.hid hby2
        have bs : w1.heap.size < W.heap.size := by omega
        clear hn hend hc hcl hby2 hby hg hsm h0 c1 c5 hfl
        go_wp2_with (go_at_fn g; refine hC.out.mono ?_; rintro e W3 ⟨rfl, hb3⟩)
        have hit3 := (hb3.block _ hltW).trans hit2
        have hy3 := hy2.out.later hb3 bs
        rw [← HU.out] at hy3
        go_roundw
        case rel => exact ⟨pos + K, hit3, c3, hy3, hB2.trans (hb3.mono hB2.size)⟩
        case measure => simp [World.iterPos, hit, hit3]; omega
    · have he' := fun ty => hend wr pos ty hit hlt
      have hpe : pos = s.size := by omega
      have hb := hby.back cap
      rw [upTo_len, HL.out] at hb
      have he : upTo s.data.toList pos = s.data.toList.map up := by rw [hpe, ← HL.out]; exact upTo_all _
      rw [he] at hb
      clear hby he hn hend hpe h0
      change _ = Result.ok (Value.string (upS s)) _ at hb
      go_wp2
      go_ret
      exact ⟨rfl, hb1.trans (hB.mono hb1.size)⟩
#print axioms Try.rUpper_calls
#print axioms Try.Upper_calls
end Go.Proofs
