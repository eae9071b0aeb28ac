/- The closure that gathers faults. Conditions: fewer than a million faults so far. -/
import Derived.Test.YtebkmcafahkdbaaG10
import Derived.Test.YtebkmcafahkdbaaG01
import Derived.Test.YtebkmcafahkdbaaG02
import Derived.Test.YtebkmcafahkdbaaG04
import Derived.Test.YtebkmcafahkdbaaG08
import Derived.Lib.TrimU
import Derived.RangeFuncRecord
import Derived.Test.YtebkmcafahkdbaaG05
import Derived.Test.YtebkmcafahkdbaaShelf
import Derived.Shelf.Abstract
import Derived.Shelf.RegionOpen
import Derived.WalkKit
import Derived.LoopNIn
import Derived.LoopIn
import Derived.Lib.OthersKept
import Derived.Lib.Hide
namespace Go.Proofs
open Go.RowKit Go.Shelf Go.Canon
attribute [local go_sem] Oper.semAt_some

/-- The faults so far, in the box that the closure writes. -/
structure TellS (bx : Nat) (W : World) (v : Value) (l : List (Nat × Nat)) : Prop where
  row : W.ownsRow (bx + 1) 66 2 v l.length (l.flatMap ftC)
  cb : W.heap[bx]? = some (.cells #[v] 63)
  sz : bx + 1 ≤ W.heap.size
/-- What telling leaves as it is: all below the box, and all blocks of other types. -/
structure Told (bx : Nat) (W W' : World) : Prop where
  below : Below bx W W'
  keep : ∀ (k : Nat) (cs : Array Value) (t : TypeId), W.heap[k]? = some (.cells cs t) → t ≠ 66 → t ≠ 63 → W'.heap[k]? = some (.cells cs t)
theorem Told.of {bx : Nat} {W W' : World} (h : Below W.heap.size W W') (hs : bx ≤ W.heap.size) : Told bx W W' :=
  ⟨h.mono hs, fun k _ _ hk _ _ => (h.block k (Array.getElem?_eq_some_iff.1 hk).1).trans hk⟩
theorem Told.trans {bx : Nat} {W W' W'' : World} (h : Told bx W W') (h' : Told bx W' W'') : Told bx W W'' :=
  ⟨h.below.trans h'.below, fun k cs t hk h1 h2 => h'.keep k cs t (h.keep k cs t hk h1 h2) h1 h2⟩
theorem TellS.next {bx : Nat} {W W' : World} {v : Value} {l : List (Nat × Nat)} (h : TellS bx W v l) (hb : Below W.heap.size W W') : TellS bx W' v l :=
  ⟨h.row.kept (row := none) ⟨hb.os, hb.tape, hb.output, hb.size, fun k hk _ => hb.block k hk⟩ (by cases v.ownBlock <;> simp), (hb.block _ (by have := h.sz; omega)).trans h.cb, Nat.le_trans h.sz hb.size⟩
theorem Try.info66 : (Try.prog.info? 66).map (fun i => (i.zero, i.size, i.bytes)) = some (some (.agg #[.int .i64 0, .int .i64 0]), 2, 16) := by kernel_rfl
theorem TellS.put {bx : Nat} {W w1 : World} {v v' : Value} {l : List (Nat × Nat)} {f n : Nat} {tmp : Obj} (h : TellS bx W v l) (hown' : w1.ownsRow (bx + 1) 66 2 v' (l.length + 1) (l.flatMap ftC ++ ftC (f, n))) (hgrow : (W.alloc tmp).grownBy w1 v.ownBlock) : TellS bx (w1.setCell ⟨bx, 0, none⟩ v') v' (l ++ [(f, n)]) ∧ Told bx W (w1.setCell ⟨bx, 0, none⟩ v') := by
  have hs := h.sz
  have B1 : Below (bx + 1) W w1 := cgrown_below (Below.refl _ W) h.sz h.row hgrow
  have cb1 : w1.heap[bx]? = some (.cells #[v] 63) := (B1.block bx (Nat.lt_succ_self _)).trans h.cb
  have hset : ∀ k, k ≠ bx → (w1.setCell ⟨bx, 0, none⟩ v').heap[k]? = w1.heap[k]? := fun k hk => Below.heap_setCell _ _ _ _ hk
  refine ⟨⟨?_, ?_, ?_⟩, ⟨?_, fun k cs t hk h1 h2 => ?_⟩⟩
  · rw [flat_snoc, List.length_append]
    exact cowns_set hown' (by show bx < bx + 1; omega) _
  · simp [World.setCell, Array.getElem?_modify, cb1]
  · have := B1.size
    simp [World.setCell]; omega
  · exact (B1.mono (Nat.le_succ _)).setCell (Nat.le_refl _) _
  · have hkb : k ≠ bx := fun e => by rw [e, h.cb] at hk; injection hk with hk; injection hk with _ e2; exact h2 e2.symm
    rw [hset k hkb]
    have hlt := (Array.getElem?_eq_some_iff.1 hk).1
    have hko : v.ownBlock ≠ some k := fun e => by
      rcases h.row.2 with ⟨rfl, _⟩ | ⟨g, cap, cur, rfl, _, hg, _⟩
      · simp [Value.ownBlock] at e
      · have : g = k := by simpa [Value.ownBlock] using e
        rw [this, hk] at hg; injection hg with hg; injection hg with _ e2; exact h1 e2
    have e1 := hgrow.block k (by show k < (W.heap.push tmp).size; rw [Array.size_push]; omega) (fun e => hko e.symm)
    rw [e1]
    exact ((below_box W tmp).block k hlt).trans hk
set_option maxRecDepth 100000 in
theorem Try.tell_calls (bx : Nat) (f n : Nat) (b : Bool) (v : Value) (l : List (Nat × Nat)) (w : World) (h : TellS bx w v l) (hl : l.length ≤ 1000000) :
    Calls Try.prog 64 #[.int .i64 (f : Int), .int .i64 (n : Int), .bool b, .pointer (some ⟨bx, 0, none⟩)] w fun e w' => e = .returned (.tuple #[]) ∧ ∃ v', TellS bx w' v' (l ++ says b f n) ∧ Told bx w w' := by
  obtain ⟨i0, hi, hz0, hz1, hz2⟩ := info_parts Try.info66
  have HI := Lib.hid hi
  clear hi
  have cc : w.cell? ⟨bx, 0, none⟩ = some v := by unfold World.cell?; rw [h.cb]; rfl
  have fc : w.frozen? ⟨bx, 0, none⟩ = false := by unfold World.frozen?; rw [h.cb]; rfl
  have row := h.row
  have H := Lib.hid h
  have sz := h.sz
  clear h
  have hml : l.length + 1 ≤ maxLen := by unfold maxLen; omega
  have hml2 : (l.length + 1) * 16 ≤ 140737488355328 := by omega
  cases b with
  | true =>
    go_enter Try.func64, Try.ntmps64
    go_wp2
    go_end0
    exact ⟨rfl, v, by rw [says_true, List.append_nil]; exact H.out, Told.of (Below.refl _ _) (by omega)⟩
  | false =>
    go_enter Try.func64, Try.ntmps64
    go_wp2_with (at_builtin; refine wpList_append_own _ rfl _ _ 63 rfl (bx + 1) 66 i0 (.agg #[.int .i64 0, .int .i64 0]) 2 16 Try.underlying63 HI.out hz0 hz1 hz2 rfl (by decide) _ _ _ rfl (row.alloc _) ⟨w.heap.size, 0, none⟩ 1 1 (ftC (f, n)) rfl rfl (cells_pair w _ _ 66) (by simp [Value.oneCell', ftC]) hml hml2 (by simp; omega) ?_; intro v' w1 hown' hgrow _; have hgrow : (w.alloc (.cells #[.int .i64 (f : Int), .int .i64 (n : Int)] 66)).grownBy w1 v.ownBlock := hgrow; have hp := H.out.put hown' hgrow; obtain ⟨ao, vc, rfl⟩ := owns_dat hown'; have B1 : Below (bx + 1) w w1 := cgrown_below (Below.refl _ w) sz row hgrow; have cc1 := (B1.cell (p := ⟨bx, 0, none⟩) (Nat.lt_succ_self _)).trans cc; have fc1 := (B1.frozen (p := ⟨bx, 0, none⟩) (Nat.lt_succ_self _)).trans fc)
    go_end0
    exact ⟨rfl, _, hp⟩
end Go.Proofs
/- words.seek and words.inside of this program, as contracts. Conditions: a part of a text; a class of signs that takes all of the high ones, or none. -/
namespace Go.Wds
theorem extract_size' (s : ByteArray) {a b : Nat} (hab : a ≤ b) (hb : b ≤ s.size) : (s.extract a b).size = b - a := by
  simp [ByteArray.size_extract]; omega
theorem extract_at (s : ByteArray) {a b j : Nat} (hj : j < (s.extract a b).size) (h : a + j < s.size) : (s.extract a b)[j]'hj = s[a + j]'h := by
  rw [ByteArray.getElem_extract]
end Go.Wds
namespace Go.Proofs
open Go.RowKit Go.Shelf Go.Wds

set_option maxRecDepth 100000 in
set_option maxHeartbeats 1000000 in
theorem Try.seek_calls {v : Value} {p : Nat → Bool} (s : ByteArray) (a b : Nat) (w : World) (hab : a ≤ b) (hbs : b ≤ s.size) (hs : s.size ≤ 2000000) (hp : Flat p) (hv : IsClass v p w) :
    Calls Try.prog 90 #[.string s, .int .i64 (a : Int), .int .i64 (b : Int), v] w fun e w' => e = .returned (.int .i64 (seekL (ofB p) s.data.toList a b : Nat)) ∧ Below w.heap.size w w' := by
  obtain ⟨g, lb, rfl, eg, hcl⟩ := hv
  obtain ⟨t, ht⟩ : ∃ t, s.extract a b = t := ⟨_, rfl⟩
  have hts := extract_size' s hab hbs
  rw [ht] at hts
  have hta : ∀ j (hj : j < t.size), ∃ h : a + j < s.size, t[j]'hj = s[a + j]'h := fun j hj => ⟨by omega, by subst ht; exact extract_at s hj (by omega)⟩
  have HT := Lib.hid hts
  have HA := Lib.hid hta
  have HCL := Lib.hid hcl
  have htm : t.size ≤ 2000000 := by omega
  clear hts hta hcl
  have hn := fun (wr : World) (pos : Nat) (ty : TypeId) hk h => Lib.run_next_any_at (P := Try.prog) wr w.heap.size t pos ty hk h
  have hend := fun (wr : World) (pos : Nat) (ty : TypeId) hk h => Lib.run_next_end_at (P := Try.prog) wr w.heap.size t pos ty hk h
  go_enter Try.func90, Try.ntmps90
  go_wp2
  go_loopw [] (fun wr => ∃ pos : Nat, wr.heap[w.heap.size]? = some (.stringIter t pos) ∧ pos ≤ t.size ∧ (∀ j (hj : j < t.size), j < pos → ofB p (t[j]'hj) = false) ∧ Below w.heap.size w wr) (fun wr => t.size - wr.iterPos w.heap.size)
  case atStart => exact ⟨0, World.iter_heap w t 0, Nat.zero_le _, fun j hj h => by omega, (Below.refl _ w).alloc (Nat.le_refl _) _⟩
  case round =>
    clear ht
    obtain ⟨pos, hit, hpos, hno, hB⟩ := hrel
    by_cases hlt : pos < t.size
    · have hn' := fun ty => hn wr pos ty hit hlt
      obtain ⟨c1, c2, c3, c4⟩ := class_step hp t pos hlt
      have hle := Lib.rune_le t pos
      obtain ⟨R, hR⟩ : ∃ R, (Utf8.decode t pos).1 = R := ⟨_, rfl⟩
      obtain ⟨K, hK⟩ : ∃ K, (Utf8.decode t pos).2 = K := ⟨_, rfl⟩
      rw [hR] at c1 c4 hle
      rw [hK] at c2 c3 c4
      rw [hR, hK] at hn'
      clear hR hK
      have hit2 := Lib.iterAt_heap wr w.heap.size t pos (pos + K) hit
      have hB2 := Lib.below_iterAt hB (k := w.heap.size) (Nat.le_refl _) t (pos + K)
      obtain ⟨W, hWd⟩ : ∃ W, wr.iterAt w.heap.size t (pos + K) = W := ⟨_, rfl⟩
      rw [hWd] at hn' hit2 hB2
      have hltW : w.heap.size < W.heap.size := (Array.getElem?_eq_some_iff.1 hit2).1
      have hc := Lib.hid (HCL.out W R hle hB2)
      cases hpr : p R with
      | true =>
        rw [hpr] at hc c1
        have hsk : seekL (ofB p) s.data.toList a b = a + pos := by
          have hts := HT.out
          obtain ⟨hx, hx2⟩ := HA.out pos hlt
          refine seek_eq (by omega) (by omega) (fun j c h1 h2 h3 => ?_) (fun _ => ⟨_, list_get s (a + pos) hx, by rw [← hx2]; exact c1.symm⟩)
          obtain ⟨hy, hy2⟩ := HA.out (j - a) (by omega)
          have h4 := hno (j - a) (by omega) (by omega)
          rw [hy2] at h4
          rw [show a + (j - a) = j from by omega] at hy
          rw [list_get s j hy] at h3
          cases h3
          have e : a + (j - a) = j := by omega
          simpa only [e] using h4
        have hsum : IntKind.i64.wrap ((a : Int) + (pos : Int)) = (a : Int) + (pos : Int) := IntWalk.i64_in _ (by omega)
        have HS := Lib.hid hsk
        clear hpr c1 c4 hn hend hno hsk
        go_wp2_with (go_at_fn g; refine hc.out.mono ?_; rintro e w1 ⟨rfl, hb1⟩)
        go_ret
        rw [HS.out]
        exact ⟨rfl, hB2.trans (hb1.mono hB2.size)⟩
      | false =>
        rw [hpr] at hc
        have hno2 : ∀ j (hj : j < t.size), j < pos + K → ofB p (t[j]'hj) = false := fun j hj h1 => by
          by_cases h2 : j < pos
          · exact hno j hj h2
          · have := c4 hpr j (by omega) h1
            rwa [get_of t j hj] at this
        have HN := Lib.hid hno2
        clear hpr c1 c4 hn hend hno hno2
        go_wp2_with (go_at_fn g; refine hc.out.mono ?_; rintro e w1 ⟨rfl, hb1⟩)
        have hit3 := (hb1.block _ hltW).trans hit2
        go_roundw
        case rel => exact ⟨pos + K, hit3, c3, HN.out, hB2.trans (hb1.mono hB2.size)⟩
        case measure => simp [World.iterPos, hit, hit3]; omega
    · have he' := fun ty => hend wr pos ty hit hlt
      have hsk : seekL (ofB p) s.data.toList a b = b := by
        have hts := HT.out
        refine seek_eq hab (Nat.le_refl _) (fun j c h1 h2 h3 => ?_) (fun h => by omega)
        obtain ⟨hy, hy2⟩ := HA.out (j - a) (by omega)
        have h4 := hno (j - a) (by omega) (by omega)
        rw [hy2] at h4
        rw [show a + (j - a) = j from by omega] at hy
        rw [list_get s j hy] at h3
        cases h3
        have e : a + (j - a) = j := by omega
        simpa only [e] using h4
      have HS := Lib.hid hsk
      clear hn hend hno hsk
      go_wp2
      go_ret
      rw [HS.out]
      exact ⟨rfl, hB⟩
#print axioms Try.seek_calls

/-- Whether two numbers are the places of a part of n bytes. -/
def inB (n : Nat) (a b : Int) : Bool := decide (0 ≤ a ∧ a ≤ b ∧ b ≤ n)
end Go.Proofs
/- words.all, words.fits, words.Plain, words.Name, and words.either at three and four classes, of this program, as contracts. Conditions: a text of at most two million bytes. -/
namespace Go.Wds
theorem all_seek (q : UInt8 → Bool) (l : List UInt8) : decide (seekL (fun c => !q c) l 0 l.length = l.length) = l.all q := by
  rw [Bool.eq_iff_iff, decide_eq_true_iff, List.all_eq_true]
  constructor
  · intro h x hx
    obtain ⟨i, hi⟩ := List.mem_iff_getElem?.1 hx
    have hil : i < l.length := (List.getElem?_eq_some_iff.1 hi).1
    have := seek_none (q := fun c => !q c) (l := l) (a := 0) (b := l.length) (Nat.zero_le i) (by omega) hi
    simpa using this
  · intro h
    refine seek_eq (Nat.zero_le _) (Nat.le_refl _) (fun j c _ _ hc => ?_) (fun h => by omega)
    have := h c (List.mem_of_getElem? hc)
    simp [this]
/-- All bytes are of a class. -/
def allL (q : UInt8 → Bool) (l : List UInt8) : Bool := l.all q
/-- 1 to 40 bytes, all of a class. -/
def fitL (q : UInt8 → Bool) (l : List UInt8) : Bool := decide (1 ≤ l.length) && decide (l.length ≤ 40) && allL q l
end Go.Wds
namespace Go.Proofs
open Go.RowKit Go.Shelf Go.Wds

set_option maxRecDepth 100000 in
theorem Try.all_calls {v : Value} {p : Nat → Bool} (s : ByteArray) (w : World) (hs : s.size ≤ 2000000) (hp : Flat p) (hv : IsClass v p w) :
    Calls Try.prog 85 #[.string s, v] w fun e w' => e = .returned (.bool (allL (ofB p) s.data.toList)) ∧ Below w.heap.size w w' := by
  have hl : s.data.toList.length = s.size := by simp
  have hall : _ = allL (ofB p) s.data.toList := all_seek (ofB p) s.data.toList
  rw [hl] at hall
  have hk : seekL (fun c => !ofB p c) s.data.toList 0 s.size ≤ s.size := seek_le (Nat.zero_le _)
  have hc := Lib.hid fun (u : Value) (W : World) (hu : IsClass u (fun x => !p x) W) => Try.seek_calls s 0 s.size W (Nat.zero_le _) (Nat.le_refl _) hs (fun r hr => by show (!p r) = !p 128; rw [hp r hr]) hu
  have hn := Lib.hid fun W (hu : IsClass v p W) => Try.not_calls hu
  have HV := Lib.hid hv
  obtain ⟨g, lb, rfl, _⟩ := hv
  clear hl hp
  obtain ⟨K, hK⟩ : ∃ K, seekL (ofB fun x => !p x) s.data.toList 0 s.size = K := ⟨_, rfl⟩
  have hK2 : seekL (fun c => !ofB p c) s.data.toList 0 s.size = K := hK
  rw [hK] at hc
  rw [hK2] at hall hk
  clear hK hK2
  by_cases hks : K = s.size
  · rw [decide_eq_true hks] at hall
    have HA := Lib.hid hall
    have d : (K == s.size) = true := by rw [beq_iff_eq]; exact hks
    have d2 : ((K : Int) == (s.size : Int)) = true := by rw [beq_iff_eq]; omega
    clear hall hks
    go_enter Try.func85, Try.ntmps85
    go_wp2_with (fail)
    refine (hn.out _ HV.out).mono ?_
    rintro e w1 ⟨u, rfl, hu, hb1⟩
    have HU := Lib.hid hu
    clear hu
    go_wp2_with (fail)
    refine (hc.out u w1 HU.out).mono ?_
    rintro e w2 ⟨rfl, hb2⟩
    go_wp2
    go_ret
    rw [← HA.out]
    exact ⟨rfl, hb1.trans (hb2.mono hb1.size)⟩
  · rw [decide_eq_false hks] at hall
    have HA := Lib.hid hall
    have d : (K == s.size) = false := by rw [beq_eq_false_iff_ne]; exact hks
    have d2 : ((K : Int) == (s.size : Int)) = false := by rw [beq_eq_false_iff_ne]; omega
    clear hall hks
    go_enter Try.func85, Try.ntmps85
    go_wp2_with (fail)
    refine (hn.out _ HV.out).mono ?_
    rintro e w1 ⟨u, rfl, hu, hb1⟩
    have HU := Lib.hid hu
    clear hu
    go_wp2_with (fail)
    refine (hc.out u w1 HU.out).mono ?_
    rintro e w2 ⟨rfl, hb2⟩
    go_wp2
    go_ret
    rw [← HA.out]
    exact ⟨rfl, hb1.trans (hb2.mono hb1.size)⟩

set_option maxRecDepth 100000 in
theorem Try.fits_calls {v : Value} {p : Nat → Bool} (s : ByteArray) (w : World) (hs : s.size ≤ 2000000) (hp : Flat p) (hv : IsClass v p w) :
    Calls Try.prog 80 #[.string s, v] w fun e w' => e = .returned (.bool (fitL (ofB p) s.data.toList)) ∧ Below w.heap.size w w' := by
  have hl : s.data.toList.length = s.size := by simp
  have hc := Lib.hid (Try.all_calls s w hs hp hv)
  have hf : fitL (ofB p) s.data.toList = (decide (1 ≤ s.size) && decide (s.size ≤ 40) && allL (ofB p) s.data.toList) := by unfold fitL; rw [hl]
  obtain ⟨g, lb, rfl, _⟩ := hv
  clear hl hp
  by_cases h1 : 1 ≤ s.size
  · have d1 : decide (1 ≤ (s.size : Int)) = true := decide_eq_true (by omega)
    rw [decide_eq_true h1] at hf
    by_cases h2 : s.size ≤ 40
    · have d2 : decide ((s.size : Int) ≤ 40) = true := decide_eq_true (by omega)
      rw [decide_eq_true h2, Bool.true_and, Bool.true_and] at hf
      have HF := Lib.hid hf
      clear hf h1 h2
      go_enter Try.func80, Try.ntmps80
      go_wp2_with (go_at_call 85; (with_reducible refine hc.out.mono ?_); rintro e w1 ⟨rfl, hb1⟩)
      go_ret
      rw [HF.out]
      exact ⟨rfl, hb1⟩
    · have d2 : decide ((s.size : Int) ≤ 40) = false := decide_eq_false (by omega)
      rw [decide_eq_false h2, Bool.and_false, Bool.false_and] at hf
      have HF := Lib.hid hf
      clear hf h1 h2
      go_enter Try.func80, Try.ntmps80
      go_wp2
      go_ret
      rw [HF.out]
      exact ⟨rfl, Below.refl _ _⟩
  · have d1 : decide (1 ≤ (s.size : Int)) = false := decide_eq_false (by omega)
    rw [decide_eq_false h1, Bool.false_and, Bool.false_and] at hf
    have HF := Lib.hid hf
    clear hf h1
    go_enter Try.func80, Try.ntmps80
    go_wp2
    go_ret
    rw [HF.out]
    exact ⟨rfl, Below.refl _ _⟩

theorem cells_of (W : World) (c : Array Value) (t : TypeId) (j : Nat) (u : Value) (h : c[j]? = some u) : (W.alloc (.cells c t)).cell? ⟨W.heap.size, j, none⟩ = some u := by
  unfold World.cell?
  simp only [World.alloc_heap_new]
  simpa using h
theorem Try.either3 {v1 v2 v3 : Value} {p1 p2 p3 : Nat → Bool} {w : World} (h1 : IsClass v1 p1 w) (h2 : IsClass v2 p2 w) (h3 : IsClass v3 p3 w) :
    Calls Try.prog 81 #[.slice (some ⟨w.heap.size, 0, none⟩) 3 3] (w.alloc (.cells #[v1, v2, v3] 85)) fun e w' => ∃ v', e = .returned v' ∧ IsClass v' (anyOf [p1, p2, p3]) w' ∧ Below w.heap.size w w' := by
  have hb : Below w.heap.size w (w.alloc (.cells #[v1, v2, v3] 85)) := (Below.refl _ _).alloc (Nat.le_refl _) _
  have hv : Hold (w.alloc (.cells #[v1, v2, v3] 85)) w.heap.size [p1, p2, p3] := by
    refine ⟨by simp, fun i p hp => ?_⟩
    match i, hp with
    | 0, hp => cases hp; exact ⟨v1, cells_of _ _ _ 0 _ rfl, h1.later hb⟩
    | 1, hp => cases hp; exact ⟨v2, cells_of _ _ _ 1 _ rfl, h2.later hb⟩
    | 2, hp => cases hp; exact ⟨v3, cells_of _ _ _ 2 _ rfl, h3.later hb⟩
  refine (Try.either_calls (cap := 3) (by simp) hv).mono ?_
  rintro e w' ⟨v', rfl, h4, h5⟩
  exact ⟨v', rfl, h4, hb.trans (h5.mono (by simp))⟩
theorem Try.either4 {v1 v2 v3 v4 : Value} {p1 p2 p3 p4 : Nat → Bool} {w : World} (h1 : IsClass v1 p1 w) (h2 : IsClass v2 p2 w) (h3 : IsClass v3 p3 w) (h4 : IsClass v4 p4 w) :
    Calls Try.prog 81 #[.slice (some ⟨w.heap.size, 0, none⟩) 4 4] (w.alloc (.cells #[v1, v2, v3, v4] 85)) fun e w' => ∃ v', e = .returned v' ∧ IsClass v' (anyOf [p1, p2, p3, p4]) w' ∧ Below w.heap.size w w' := by
  have hb : Below w.heap.size w (w.alloc (.cells #[v1, v2, v3, v4] 85)) := (Below.refl _ _).alloc (Nat.le_refl _) _
  have hv : Hold (w.alloc (.cells #[v1, v2, v3, v4] 85)) w.heap.size [p1, p2, p3, p4] := by
    refine ⟨by simp, fun i p hp => ?_⟩
    match i, hp with
    | 0, hp => cases hp; exact ⟨v1, cells_of _ _ _ 0 _ rfl, h1.later hb⟩
    | 1, hp => cases hp; exact ⟨v2, cells_of _ _ _ 1 _ rfl, h2.later hb⟩
    | 2, hp => cases hp; exact ⟨v3, cells_of _ _ _ 2 _ rfl, h3.later hb⟩
    | 3, hp => cases hp; exact ⟨v4, cells_of _ _ _ 3 _ rfl, h4.later hb⟩
  refine (Try.either_calls (cap := 4) (by simp) hv).mono ?_
  rintro e w' ⟨v', rfl, h5, h6⟩
  exact ⟨v', rfl, h5, hb.trans (h6.mono (by simp))⟩
#print axioms Try.all_calls
#print axioms Try.fits_calls
#print axioms Try.either4
end Go.Proofs
/- words.Name and words.Plain of this program, and the document's own, as contracts. Conditions: a text of at most two million bytes. -/
namespace Go.Wds
open Go.Proofs
def sMarks : ByteArray := ⟨#[46, 95, 45]⟩
theorem low_marks : Low sMarks := by unfold Low; decide
theorem flat_between {a b : Nat} (hb : b < 128) : Flat (between a b) := fun r hr => by
  unfold between
  rw [show decide (r ≤ b) = false from decide_eq_false (by omega), show decide (128 ≤ b) = false from decide_eq_false (by omega)]; simp
theorem flat_has2 {s : ByteArray} (h : Low s) : Flat (has s) := fun r hr => by rw [has_high h hr, has_high h (Nat.le_refl _)]
theorem flat_any : ∀ {ps : List (Nat → Bool)}, (∀ p ∈ ps, Flat p) → Flat (anyOf ps)
  | [], _ => fun _ _ => rfl
  | p :: ps, h => fun r hr => by
    show (p r || anyOf ps r) = (p 128 || anyOf ps 128)
    rw [h p (by simp) r hr, flat_any (fun q hq => h q (by simp [hq])) r hr]
def nameP : Nat → Bool := anyOf [between 65 90, between 97 122, between 48 57, has sMarks]
theorem flat_name : Flat nameP := flat_any (by
  intro p hp
  simp only [List.mem_cons, List.not_mem_nil, or_false] at hp
  rcases hp with rfl | rfl | rfl | rfl
  · exact flat_between (by decide)
  · exact flat_between (by decide)
  · exact flat_between (by decide)
  · exact flat_has2 low_marks)
theorem nameP_eq (n : Nat) : nameP n = decide ((65 ≤ n ∧ n ≤ 90) ∨ (97 ≤ n ∧ n ≤ 122) ∨ (48 ≤ n ∧ n ≤ 57) ∨ n = 46 ∨ n = 95 ∨ n = 45) := by
  show ((decide (65 ≤ n) && decide (n ≤ 90)) || ((decide (97 ≤ n) && decide (n ≤ 122)) || ((decide (48 ≤ n) && decide (n ≤ 57)) || (((46 == n) || ((95 == n) || ((45 == n) || false))) || false)))) = _
  rw [Bool.eq_iff_iff]
  simp only [Bool.or_eq_true, Bool.and_eq_true, decide_eq_true_iff, beq_iff_eq, Bool.false_eq_true, or_false]
  omega
/-- May a text be a name? -/
def nameL (l : List UInt8) : Bool := fitL (ofB nameP) l
/-- Are all bytes of a text 32 to 126? -/
def plainL (l : List UInt8) : Bool := allL (ofB (between 32 126)) l
theorem plainP_eq (n : Nat) : between 32 126 n = decide (32 ≤ n ∧ n ≤ 126) := by
  unfold between; rw [Bool.decide_and]
theorem allL_step {q : UInt8 → Bool} {l : List UInt8} {k : Nat} {c : UInt8} (hc : l[k]? = some c) : allL q (l.drop k) = (q c && allL q (l.drop (k + 1))) := by
  obtain ⟨hk, rfl⟩ := List.getElem?_eq_some_iff.1 hc
  unfold allL
  rw [List.drop_eq_getElem_cons hk, List.all_cons]
theorem allL_end (q : UInt8 → Bool) (l : List UInt8) : allL q (l.drop l.length) = true := by unfold allL; rw [List.drop_length]; rfl
end Go.Wds
namespace Go.Proofs
open Go.RowKit Go.Shelf Go.Wds

theorem Try.spanAZ (w : World) : Calls Try.prog 82 #[.int .i32 65, .int .i32 90] w fun e w' => ∃ v, e = .returned v ∧ IsClass v (between 65 90) w' ∧ Below w.heap.size w w' := Try.span_calls 65 90 w
theorem Try.spanaz (w : World) : Calls Try.prog 82 #[.int .i32 97, .int .i32 122] w fun e w' => ∃ v, e = .returned v ∧ IsClass v (between 97 122) w' ∧ Below w.heap.size w w' := Try.span_calls 97 122 w
theorem Try.span09 (w : World) : Calls Try.prog 82 #[.int .i32 48, .int .i32 57] w fun e w' => ∃ v, e = .returned v ∧ IsClass v (between 48 57) w' ∧ Below w.heap.size w w' := Try.span_calls 48 57 w
theorem Try.spanSigns (w : World) : Calls Try.prog 82 #[.int .i32 32, .int .i32 126] w fun e w' => ∃ v, e = .returned v ∧ IsClass v (between 32 126) w' ∧ Below w.heap.size w w' := Try.span_calls 32 126 w
theorem Try.oneMarks (w : World) : Calls Try.prog 83 #[.string { data := #[46, 95, 45] }] w fun e w' => ∃ v, e = .returned v ∧ IsClass v (has sMarks) w' ∧ Below w.heap.size w w' := Try.oneOf_calls sMarks w low_marks


set_option maxRecDepth 100000 in
theorem Try.Name_calls (s : ByteArray) (w : World) (hs : s.size ≤ 2000000) :
    Calls Try.prog 71 #[.string s] w fun e w' => e = .returned (.bool (nameL s.data.toList)) ∧ Below w.heap.size w w' := by
  have hc := Lib.hid fun v W (hv : IsClass v nameP W) => Try.fits_calls s W hs flat_name hv
  go_enter Try.func71, Try.ntmps71
  go_wp2_with (fail)
  refine (Try.spanAZ _).mono ?_
  rintro e w1 ⟨v1, rfl, hv, hb1⟩
  have H1 := Lib.hid hv
  obtain ⟨g1, l1, rfl, _⟩ := hv
  go_wp2_with (fail)
  refine (Try.spanaz _).mono ?_
  rintro e w2 ⟨v2, rfl, hv, hb2⟩
  have H2 := Lib.hid hv
  obtain ⟨g2, l2, rfl, _⟩ := hv
  go_wp2_with (fail)
  refine (Try.span09 _).mono ?_
  rintro e w3 ⟨v3, rfl, hv, hb3⟩
  have H3 := Lib.hid hv
  obtain ⟨g3, l3, rfl, _⟩ := hv
  go_wp2_with (fail)
  refine (Try.oneMarks _).mono ?_
  rintro e w4 ⟨v4, rfl, hv, hb4⟩
  have H4 := Lib.hid hv
  obtain ⟨g4, l4, rfl, _⟩ := hv
  go_wp2_with (fail)
  refine (Try.either4 (H1.out.later ((hb2.trans (hb3.mono hb2.size)).trans (hb4.mono (hb2.trans (hb3.mono hb2.size)).size))) (H2.out.later (hb3.trans (hb4.mono hb3.size))) (H3.out.later hb4) H4.out).mono ?_
  rintro e w5 ⟨v5, rfl, hv, hb5⟩
  have H5 := Lib.hid hv
  clear hv
  have B := hb1.trans ((hb2.trans ((hb3.trans ((hb4.trans (hb5.mono hb4.size)).mono hb3.size)).mono hb2.size)).mono hb1.size)
  clear hb1 hb2 hb3 hb4 hb5 H1 H2 H3 H4
  go_wp2_with (fail)
  refine (hc.out _ _ H5.out).mono ?_
  rintro e w6 ⟨rfl, hb6⟩
  go_wp2
  go_ret
  exact ⟨rfl, B.trans (hb6.mono B.size)⟩


set_option maxRecDepth 100000 in
set_option maxHeartbeats 2000000 in
theorem Try.rName_calls (s : ByteArray) (w : World) (hs : s.size ≤ 2000000) :
    Calls Try.prog 47 #[.string s] w fun e w' => e = .returned (.bool (nameL s.data.toList)) ∧ w' = w := by
  have HL := Lib.hid (show s.data.toList.length = s.size by simp)
  have hN : nameL s.data.toList = (decide (1 ≤ s.size) && decide (s.size ≤ 40) && allL (ofB nameP) s.data.toList) := by unfold nameL fitL; rw [HL.out]
  obtain ⟨q, hq⟩ : ∃ q, ofB nameP = q := ⟨_, rfl⟩
  have HQ := Lib.hid hq
  rw [hq] at hN
  have HN := Lib.hid hN
  clear hq hN
  go_enter Try.func47, Try.ntmps47
  go_wp2
  go_loop [3] (fun i => ∃ k : Nat, i = .int .i64 (k : Int) ∧ k ≤ s.size ∧ Hid (allL q s.data.toList = allL q (s.data.toList.drop k))) (fun i => s.size - (intOf i).toNat)
  case atStart => exact ⟨0, rfl, Nat.zero_le _, Lib.hid rfl⟩
  case round =>
    obtain ⟨k, rfl, hk, HA⟩ := hrel
    by_cases hlt : k < s.size
    · have hst := allL_step (q := q) (list_get s k hlt)
      have hqc : q (s[k]'hlt) = nameP (s[k]'hlt).toNat := by rw [← HQ.out]; rfl
      rw [nameP_eq] at hqc
      have hst2 := HA.out.trans hst
      rw [hqc] at hst2
      clear hst hqc
      have hparts : ((s[k]'hlt).toNat = 45 ∨ (s[k]'hlt).toNat = 46 ∨ (48 ≤ (s[k]'hlt).toNat ∧ (s[k]'hlt).toNat ≤ 57) ∨ (65 ≤ (s[k]'hlt).toNat ∧ (s[k]'hlt).toNat ≤ 90) ∨ (s[k]'hlt).toNat = 95 ∨ (97 ≤ (s[k]'hlt).toNat ∧ (s[k]'hlt).toNat ≤ 122)) ∨
          ((s[k]'hlt).toNat < 45 ∨ (s[k]'hlt).toNat = 47 ∨ (58 ≤ (s[k]'hlt).toNat ∧ (s[k]'hlt).toNat ≤ 64) ∨ (91 ≤ (s[k]'hlt).toNat ∧ (s[k]'hlt).toNat ≤ 94) ∨ (s[k]'hlt).toNat = 96 ∨ 123 ≤ (s[k]'hlt).toNat) := by omega
      rcases hparts with hp | hp
      · rcases hp with hp | hp | hp | hp | hp | hp
        all_goals
          rw [show decide ((65 ≤ (s[k]'hlt).toNat ∧ (s[k]'hlt).toNat ≤ 90) ∨ (97 ≤ (s[k]'hlt).toNat ∧ (s[k]'hlt).toNat ≤ 122) ∨ (48 ≤ (s[k]'hlt).toNat ∧ (s[k]'hlt).toNat ≤ 57) ∨ (s[k]'hlt).toNat = 46 ∨ (s[k]'hlt).toNat = 95 ∨ (s[k]'hlt).toNat = 45) = true from decide_eq_true (by omega), Bool.true_and] at hst2
          have HS := Lib.hid hst2
          clear hst2
          first | have d1 : decide (((s[k]'hlt).toNat : Int) < 65) = true := decide_eq_true (by omega) | have d1 : decide (((s[k]'hlt).toNat : Int) < 65) = false := decide_eq_false (by omega)
          first | have d2 : decide ((90 : Int) < ((s[k]'hlt).toNat : Int)) = true := decide_eq_true (by omega) | have d2 : decide ((90 : Int) < ((s[k]'hlt).toNat : Int)) = false := decide_eq_false (by omega)
          first | have d3 : decide (((s[k]'hlt).toNat : Int) < 97) = true := decide_eq_true (by omega) | have d3 : decide (((s[k]'hlt).toNat : Int) < 97) = false := decide_eq_false (by omega)
          first | have d4 : decide ((122 : Int) < ((s[k]'hlt).toNat : Int)) = true := decide_eq_true (by omega) | have d4 : decide ((122 : Int) < ((s[k]'hlt).toNat : Int)) = false := decide_eq_false (by omega)
          first | have d5 : decide (((s[k]'hlt).toNat : Int) < 48) = true := decide_eq_true (by omega) | have d5 : decide (((s[k]'hlt).toNat : Int) < 48) = false := decide_eq_false (by omega)
          first | have d6 : decide ((57 : Int) < ((s[k]'hlt).toNat : Int)) = true := decide_eq_true (by omega) | have d6 : decide ((57 : Int) < ((s[k]'hlt).toNat : Int)) = false := decide_eq_false (by omega)
          first | have d7 : (((s[k]'hlt).toNat : Int) != 46) = true := bne_iff_ne.2 (by omega) | have d7 : (((s[k]'hlt).toNat : Int) != 46) = false := bne_eq_false_iff_eq.2 (by omega)
          first | have d8 : (((s[k]'hlt).toNat : Int) != 95) = true := bne_iff_ne.2 (by omega) | have d8 : (((s[k]'hlt).toNat : Int) != 95) = false := bne_eq_false_iff_eq.2 (by omega)
          first | have d9 : (((s[k]'hlt).toNat : Int) != 45) = true := bne_iff_ne.2 (by omega) | have d9 : (((s[k]'hlt).toNat : Int) != 45) = false := bne_eq_false_iff_eq.2 (by omega)
          clear hp
          go_wp2
          go_round
          case rel => exact ⟨k + 1, by go_num, by omega, HS⟩
          case measure => simp [intOf]; omega
      · rcases hp with hp | hp | hp | hp | hp | hp
        all_goals
          rw [show decide ((65 ≤ (s[k]'hlt).toNat ∧ (s[k]'hlt).toNat ≤ 90) ∨ (97 ≤ (s[k]'hlt).toNat ∧ (s[k]'hlt).toNat ≤ 122) ∨ (48 ≤ (s[k]'hlt).toNat ∧ (s[k]'hlt).toNat ≤ 57) ∨ (s[k]'hlt).toNat = 46 ∨ (s[k]'hlt).toNat = 95 ∨ (s[k]'hlt).toNat = 45) = false from decide_eq_false (by omega), Bool.false_and] at hst2
          have HS := Lib.hid hst2
          clear hst2
          first | have d1 : decide (((s[k]'hlt).toNat : Int) < 65) = true := decide_eq_true (by omega) | have d1 : decide (((s[k]'hlt).toNat : Int) < 65) = false := decide_eq_false (by omega)
          first | have d2 : decide ((90 : Int) < ((s[k]'hlt).toNat : Int)) = true := decide_eq_true (by omega) | have d2 : decide ((90 : Int) < ((s[k]'hlt).toNat : Int)) = false := decide_eq_false (by omega)
          first | have d3 : decide (((s[k]'hlt).toNat : Int) < 97) = true := decide_eq_true (by omega) | have d3 : decide (((s[k]'hlt).toNat : Int) < 97) = false := decide_eq_false (by omega)
          first | have d4 : decide ((122 : Int) < ((s[k]'hlt).toNat : Int)) = true := decide_eq_true (by omega) | have d4 : decide ((122 : Int) < ((s[k]'hlt).toNat : Int)) = false := decide_eq_false (by omega)
          first | have d5 : decide (((s[k]'hlt).toNat : Int) < 48) = true := decide_eq_true (by omega) | have d5 : decide (((s[k]'hlt).toNat : Int) < 48) = false := decide_eq_false (by omega)
          first | have d6 : decide ((57 : Int) < ((s[k]'hlt).toNat : Int)) = true := decide_eq_true (by omega) | have d6 : decide ((57 : Int) < ((s[k]'hlt).toNat : Int)) = false := decide_eq_false (by omega)
          first | have d7 : (((s[k]'hlt).toNat : Int) != 46) = true := bne_iff_ne.2 (by omega) | have d7 : (((s[k]'hlt).toNat : Int) != 46) = false := bne_eq_false_iff_eq.2 (by omega)
          first | have d8 : (((s[k]'hlt).toNat : Int) != 95) = true := bne_iff_ne.2 (by omega) | have d8 : (((s[k]'hlt).toNat : Int) != 95) = false := bne_eq_false_iff_eq.2 (by omega)
          first | have d9 : (((s[k]'hlt).toNat : Int) != 45) = true := bne_iff_ne.2 (by omega) | have d9 : (((s[k]'hlt).toNat : Int) != 45) = false := bne_eq_false_iff_eq.2 (by omega)
          clear hp
          go_wp2
          go_ret
          rw [HN.out, HS.out, Bool.and_false]
          exact ⟨rfl, rfl⟩
    · have hkk : k = s.size := by omega
      subst hkk
      have HS := Lib.hid (HA.out.trans (show allL q (s.data.toList.drop s.size) = true by rw [← HL.out]; exact allL_end _ _))
      by_cases h1 : 1 ≤ s.size
      · have d1 : decide (1 ≤ (s.size : Int)) = true := decide_eq_true (by omega)
        have HN1 := Lib.hid (decide_eq_true h1)
        by_cases h2 : s.size ≤ 40
        · have d2 : decide ((s.size : Int) ≤ 40) = true := decide_eq_true (by omega)
          have HN2 := Lib.hid (decide_eq_true h2)
          clear h1 h2
          go_wp2
          go_ret
          rw [HN.out, HS.out, HN1.out, HN2.out]
          exact ⟨rfl, rfl⟩
        · have d2 : decide ((s.size : Int) ≤ 40) = false := decide_eq_false (by omega)
          have HN2 := Lib.hid (decide_eq_false h2)
          clear h1 h2
          go_wp2
          go_ret
          rw [HN.out, HS.out, HN1.out, HN2.out]
          exact ⟨rfl, rfl⟩
      · have d1 : decide (1 ≤ (s.size : Int)) = false := decide_eq_false (by omega)
        have HN1 := Lib.hid (decide_eq_false h1)
        clear h1
        go_wp2
        go_ret
        rw [HN.out, HS.out, HN1.out, Bool.false_and, Bool.false_and]
        exact ⟨rfl, rfl⟩
#print axioms Try.Name_calls
#print axioms Try.rName_calls
end Go.Proofs
/- The small functions of package metric, and those of the document's own answers: Known, fits, size, power, nearest; far. Conditions: where a number is doubled, that it has room. -/
namespace Go.Metric
def knownB (k : Int) : Bool := decide (0 ≤ k) && decide (k ≤ 6)
def fitsB (n : Int) : Bool := decide (-200000000 ≤ n) && decide (n ≤ 200000000)
theorem fitsB_true {n : Int} (h : fitsB n = true) : -200000000 ≤ n ∧ n ≤ 200000000 := by simpa [fitsB] using h
theorem fitsB_abs {n : Int} (h : fitsB n = true) : n.natAbs ≤ 200000000 := by have := fitsB_true h; omega
theorem fitsB_of {n : Int} (h1 : -200000000 ≤ n) (h2 : n ≤ 200000000) : fitsB n = true := by simp [fitsB, h1, h2]
theorem knownB_true {k : Int} (h : knownB k = true) : 0 ≤ k ∧ k ≤ 6 := by simpa [knownB] using h
end Go.Metric
namespace Go.Proofs
open Go.RowKit Go.Shelf Go.Root Go.Metric
attribute [local go_sem] Oper.semAt_some

theorem ret_is {a b : Bool} (h : a = b) : Ending.returned (.bool a) = .returned (.bool b) := by rw [h]
theorem mret_num {a b : Int} (h : a = b) : Ending.returned (.int .i64 a) = .returned (.int .i64 b) := by rw [h]

theorem Try.Known_calls (k : Int) (w : World) :
    Calls Try.prog 72 #[.int .i64 k] w fun e w' => e = .returned (.bool (knownB k)) ∧ w' = w := by
  by_cases h1 : 0 ≤ k
  · by_cases h2 : k ≤ 6
    · go_enter Try.func72, Try.ntmps72
      go_wp2
      go_ret
      exact ⟨ret_is (by simp [knownB]; omega), rfl⟩
    · go_enter Try.func72, Try.ntmps72
      go_wp2
      go_ret
      exact ⟨ret_is (by simp [knownB]; omega), rfl⟩
  · go_enter Try.func72, Try.ntmps72
    go_wp2
    go_ret
    exact ⟨ret_is (by simp [knownB]; omega), rfl⟩
theorem Try.RKnown_calls (k : Int) (w : World) :
    Calls Try.prog 48 #[.int .i64 k] w fun e w' => e = .returned (.bool (knownB k)) ∧ w' = w := by
  by_cases h1 : 0 ≤ k
  · by_cases h2 : k ≤ 6
    · go_enter Try.func48, Try.ntmps48
      go_wp2
      go_ret
      exact ⟨ret_is (by simp [knownB]; omega), rfl⟩
    · go_enter Try.func48, Try.ntmps48
      go_wp2
      go_ret
      exact ⟨ret_is (by simp [knownB]; omega), rfl⟩
  · go_enter Try.func48, Try.ntmps48
    go_wp2
    go_ret
    exact ⟨ret_is (by simp [knownB]; omega), rfl⟩
end Go.Proofs
