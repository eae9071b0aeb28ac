/- The document's own answer for metric.Of: the same as the program's. Conditions: none. -/
import Derived.Test.YtmmmgljekoebpaaDoorG01
import Derived.Laws.RangeAny
import Derived.RowKit
import Derived.Test.YtmmmgljekoebpaaDoorG02
import Derived.Test.YtmmmgljekoebpaaDoorProg
import Derived.Shelf.Abstract
import Derived.Shelf.RegionOpen
import Derived.WalkKit
import Derived.OwnWalkIn
import Derived.TacticsInMore
import Derived.LoopNIn
import Derived.LoopIn
import Derived.Lib.OthersKept
import Derived.Lib.Hide
import Derived.OrdersIn
import Derived.Sort.QuietThIn
import Derived.Sort.QuietIn
import Derived.TacticsIn
import Derived.Maps.AppendAt
import Derived.Deep.QuietTactic
import Derived.BigQuiet
namespace Go.Proofs
open Go.RowKit Go.Shelf Go.Root Go.Metric Go.TextTab
attribute [local go_sem] Oper.semAt_some

end Go.Proofs
/- Plain facts on the parts of a text that line feeds part, and on its lines; no program. -/
namespace Go.Cur

theorem get_of (s : ByteArray) (k : Nat) (h : k < s.size) : s.get! k = s[k]'h := by
  have := get_at s k h; simpa using this
theorem list_get (s : ByteArray) (k : Nat) (h : k < s.size) : s.data.toList[k]? = some (s[k]'h) := by
  have h' : k < s.data.toList.length := by simpa using h
  rw [List.getElem?_eq_getElem h']; rfl

/-- A line feed is met as one. -/
theorem decode_feed (s : ByteArray) (pos : Nat) (h : pos < s.size) (hb : s[pos]'h = 10) : Utf8.decode s pos = (10, 1) := by
  rw [decode_ascii s pos h (by rw [hb]; decide), hb]; rfl

theorem cont_ne (b : UInt8) (h : (b.toNat / 64 == 2) = true) : b ≠ 10 := by
  intro e; subst e; revert h; decide

/-- Any other sign is none, and has none in it. -/
theorem decode_sign (s : ByteArray) (pos : Nat) (h : pos < s.size) (hb : s[pos]'h ≠ 10) :
    (Utf8.decode s pos).1 ≠ 10 ∧ 1 ≤ (Utf8.decode s pos).2 ∧ pos + (Utf8.decode s pos).2 ≤ s.size ∧ ∀ j, pos ≤ j → j < pos + (Utf8.decode s pos).2 → s.get! j ≠ 10 := by
  have hb' : s.get! (pos + 0) ≠ 10 := by rw [get_at s pos h]; exact hb
  by_cases ha : (s[pos]'h).toNat < 128
  · rw [decode_ascii s pos h ha]
    refine ⟨fun e => hb ?_, Nat.le_refl _, h, fun j h1 h2 => ?_⟩
    · have e' : (s[pos]'h).toNat = (10 : UInt8).toNat := e
      exact UInt8.toNat_inj.1 e'
    · have : j = pos := by simp at h2; omega
      subst this; simpa using hb'
  · have hh := decode_high s pos h (by omega)
    refine ⟨by omega, hh.2, ?_⟩
    have hn : ¬ (s.get! (pos + 0)).toNat < 128 := by rw [get_at s pos h]; exact ha
    clear hh ha
    simp only [Utf8.decode]
    rw [if_neg (by simpa using hn)]
    have one : pos + 1 ≤ s.size ∧ ∀ j, pos ≤ j → j < pos + 1 → s.get! j ≠ 10 := ⟨h, fun j h1 h2 => by
      have : j = pos := by omega
      subst this; simpa using hb'⟩
    have two : ∀ m, (m ≤ 3) → (∀ k, 1 ≤ k → k ≤ m → (decide (pos + k < s.size) && (s.get! (pos + k)).toNat / 64 == 2) = true) → pos + (m + 1) ≤ s.size ∧ ∀ j, pos ≤ j → j < pos + (m + 1) → s.get! j ≠ 10 := by
      intro m hm hk
      refine ⟨?_, fun j h1 h2 => ?_⟩
      · rcases Nat.eq_zero_or_pos m with rfl | hp
        · exact h
        · have := hk m hp (Nat.le_refl _)
          simp at this; omega
      · by_cases e : j = pos
        · subst e; simpa using hb'
        · have := hk (j - pos) (by omega) (by omega)
          rw [Bool.and_eq_true] at this
          have := cont_ne _ this.2
          rwa [show pos + (j - pos) = j from by omega] at this
    split
    · rename_i hc
      simp only [Bool.and_eq_true] at hc
      split
      · refine two 1 (by omega) fun k h1 h2 => ?_
        obtain rfl : k = 1 := by omega
        simpa using hc.2
      · exact one
    · split
      · rename_i hc
        simp only [Bool.and_eq_true] at hc
        split
        · refine two 2 (by omega) fun k h1 h2 => ?_
          rcases (by omega : k = 1 ∨ k = 2) with rfl | rfl
          · simpa using hc.1.2
          · simpa using hc.2
        · exact one
      · split
        · rename_i hc
          simp only [Bool.and_eq_true] at hc
          split
          · refine two 3 (by omega) fun k h1 h2 => ?_
            rcases (by omega : k = 1 ∨ k = 2 ∨ k = 3) with rfl | rfl | rfl
            · simpa using hc.1.1.2
            · simpa using hc.1.2
            · simpa using hc.2
          · exact one
        · exact one

/-- The parts of the rest l of a text, base bytes being ahead of it, the last part having begun at a. -/
def spansFrom : List UInt8 → Nat → Nat → List (Nat × Nat)
  | [], base, a => [(a, base)]
  | c :: r, base, a => if c = 10 then (a, base) :: spansFrom r (base + 1) (base + 1) else spansFrom r (base + 1) a
def spans (l : List UInt8) : List (Nat × Nat) := spansFrom l 0 0

theorem spans_feed (l : List UInt8) (p a : Nat) (h : l[p]? = some 10) : spansFrom (l.drop p) p a = (a, p) :: spansFrom (l.drop (p + 1)) (p + 1) (p + 1) := by
  obtain ⟨hp, he⟩ := List.getElem?_eq_some_iff.1 h
  rw [List.drop_eq_getElem_cons hp, he]; rfl
theorem spans_sign (l : List UInt8) (a : Nat) (w : Nat) : ∀ (p : Nat), p + w ≤ l.length → (∀ j, p ≤ j → j < p + w → l[j]? ≠ some 10) → spansFrom (l.drop p) p a = spansFrom (l.drop (p + w)) (p + w) a := by
  induction w with
  | zero => intro p _ _; rfl
  | succ w ih =>
    intro p hp hj
    have hlt : p < l.length := by omega
    have h1 := hj p (Nat.le_refl _) (by omega)
    rw [List.getElem?_eq_getElem hlt] at h1
    rw [List.drop_eq_getElem_cons hlt, spansFrom, if_neg (fun e => h1 (by rw [e]))]
    rw [ih (p + 1) (by omega) (fun j h2 h3 => hj j (by omega) (by omega)), show p + 1 + w = p + (w + 1) from by omega]
theorem spans_end (l : List UInt8) (a : Nat) : spansFrom (l.drop l.length) l.length a = [(a, l.length)] := by simp [spansFrom]

theorem spans_mem : ∀ {l : List UInt8} {base a : Nat}, a ≤ base → ∀ p ∈ spansFrom l base a, a ≤ p.1 ∧ p.1 ≤ p.2 ∧ p.2 ≤ base + l.length
  | [], base, a, h, p, hp => by
    have : p = (a, base) := by simpa [spansFrom] using hp
    subst this; exact ⟨Nat.le_refl _, h, by simp⟩
  | c :: r, base, a, h, p, hp => by
    unfold spansFrom at hp
    split at hp
    · rcases List.mem_cons.1 hp with rfl | hp
      · exact ⟨Nat.le_refl _, h, by simp⟩
      · have := spans_mem (Nat.le_refl _) p hp
        simp only [List.length_cons]; omega
    · have := spans_mem (by omega) p hp
      simp only [List.length_cons]; omega
theorem spans_len : ∀ (l : List UInt8) (base a : Nat), (spansFrom l base a).length ≤ l.length + 1
  | [], _, _ => by simp [spansFrom]
  | c :: r, base, a => by
    unfold spansFrom
    split
    · have := spans_len r (base + 1) (base + 1); simp only [List.length_cons]; omega
    · have := spans_len r (base + 1) a; simp only [List.length_cons]; omega
theorem spans_get {l : List UInt8} {k a b : Nat} (h : (spans l)[k]? = some (a, b)) : a ≤ b ∧ b ≤ l.length ∧ k ≤ l.length := by
  obtain ⟨hk, he⟩ := List.getElem?_eq_some_iff.1 h
  have h1 := spans_mem (l := l) (base := 0) (a := 0) (Nat.le_refl _) (a, b) (by rw [← he]; exact List.getElem_mem _)
  have h2 := spans_len l 0 0
  simp only [spans] at hk
  refine ⟨h1.2.1, by simpa using h1.2.2, by omega⟩

/-- What is drawn off a list, one at a time. -/
theorem drop_step {α : Type} {l : List α} {k : Nat} {x : α} {r : List α} (h : l.drop k = x :: r) : l[k]? = some x ∧ l.drop (k + 1) = r := by
  have h1 : (l.drop k)[0]? = some x := by rw [h]; rfl
  have h2 : (l.drop k).drop 1 = r := by rw [h]; rfl
  rw [List.getElem?_drop] at h1
  rw [List.drop_drop] at h2
  exact ⟨by simpa using h1, h2⟩
theorem drop_one {α : Type} {l : List α} {k : Nat} {x : α} (h : l.drop k = [x]) : l.length = k + 1 := by
  have h1 : (l.drop k).length = 1 := by rw [h]; rfl
  rw [List.length_drop] at h1; omega
theorem takeWhile_step {α : Type} {p : α → Bool} {x : α} : ∀ {l : List α} {k : Nat}, k ≤ (l.takeWhile p).length → l[k]? = some x → (p x = true → (l.takeWhile p)[k]? = some x ∧ k + 1 ≤ (l.takeWhile p).length) ∧ (p x = false → (l.takeWhile p).length = k)
  | [], k, _, h => by simp at h
  | y :: l, 0, _, h => by
    have e : y = x := by simpa using h
    subst e
    refine ⟨fun hp => ?_, fun hp => ?_⟩ <;> simp [hp]
  | y :: l, k + 1, hk, h => by
    cases hy : p y with
    | false => simp [hy] at hk
    | true =>
      simp only [List.takeWhile_cons, hy, if_true, List.length_cons] at hk ⊢
      have := takeWhile_step (p := p) (l := l) (k := k) (x := x) (by omega) (by simpa using h)
      refine ⟨fun hp => ?_, fun hp => ?_⟩
      · obtain ⟨a, b⟩ := this.1 hp
        exact ⟨by simpa using a, by omega⟩
      · have := this.2 hp; omega
end Go.Cur
/- The iterator cursor.spans of this program: it tells the parts of a text that line feeds part. Conditions: a text that a string can be. -/
namespace Go.Proofs
open Go.RowKit Go.Shelf Go.Cur

attribute [local go_sem] Oper.semAt_some

/-- The types of the cells that no round of this program writes: a string's box, the box of a yield. -/
def stillT (_ : Nat) (t : TypeId) : Bool := t == 9 || t == 81

def curSpanV (p : Nat × Nat) : Array Value := #[.int .i64 (p.1 : Int), .int .i64 (p.2 : Int)]
def spansV (s : ByteArray) : List (Array Value) := (spans s.data.toList).map curSpanV

theorem Tryd.spans_calls (s : ByteArray) (w : World) :
    Calls Tryd.prog 50 #[.string s] w fun e w' => e = .returned (.func (.func 67) #[] #[.pointer (some ⟨w.heap.size, 0, none⟩)]) ∧ w' = w.alloc (.cells #[.string s] 9) := by
  go_enter Tryd.func50, Tryd.ntmps50
  go_wp2
  go_ret
  exact ⟨rfl, rfl⟩

set_option maxRecDepth 100000 in
set_option maxHeartbeats 1000000 in
theorem Tryd.spans1_seq (Bs : Nat) (s : ByteArray) (w : World) (hs : s.size ≤ maxLen) (hB : Bs < w.heap.size) (hbox : Boxed w Bs 9 (.string s)) :
    Seq stillT Tryd.prog 67 #[.pointer (some ⟨Bs, 0, none⟩)] (spansV s) w := by
  intro l J Jx W hW hJ hJx hY h0
  unfold maxLen at hs
  have hbW : Boxed W Bs 9 (.string s) := (hW.block Bs hB).trans hbox
  have hBW : Bs < W.heap.size := hbW.lt
  have hcW := hbW.cell
  have hn := fun (wr : World) (pos : Nat) (ty : TypeId) hk h => Lib.run_next_any_at (P := Tryd.prog) wr W.heap.size s pos ty hk h
  have he := fun (wr : World) (pos : Nat) (ty : TypeId) hk h => Lib.run_next_end_at (P := Tryd.prog) wr W.heap.size s pos ty hk h
  refine (callsIn_wide (n := 0)).1 (callsIn_of_wp Tryd.func67 rfl trivial ?_ rfl)
  simp only [Tryd.ntmps67, List.size_toArray, List.length_cons, List.length_nil, Nat.reduceAdd, Nat.reduceSub, Array.replicate_succ, Array.replicate_zero, List.push_toArray, List.append_toArray, List.nil_append, List.cons_append]
  gi_wp2
  gi_loopw [3] (fun v wr => ∃ (pos a k : Nat), v = .int .i64 (a : Int) ∧ wr.heap[W.heap.size]? = some (.stringIter s pos) ∧ Boxed wr Bs 9 (.string s) ∧ pos ≤ s.size ∧ a ≤ pos ∧ (spans s.data.toList).drop k = spansFrom (s.data.toList.drop pos) pos a ∧ J k wr)
    (fun v wr => s.size - wr.iterPos W.heap.size)
  case atStart =>
    exact ⟨0, 0, 0, rfl, World.alloc_heap_new W _, hbW.alloc _, Nat.zero_le _, Nat.le_refl _, by simp [spans], hJ.alloc _ h0⟩
  case round =>
    obtain ⟨pos, a, k, rfl, hit, hbox1, hpos, ha, hdrop, hj⟩ := hrel
    have hcell := hbox1.cell
    by_cases hlt : pos < s.size
    · by_cases hb : s[pos]'hlt = 10
      · -- a line feed
        have hn' := fun ty => hn wr pos ty hit hlt
        rw [decode_feed s pos hlt hb] at hn'
        have hg := list_get s pos hlt
        rw [hb] at hg
        rw [spans_feed _ _ _ hg] at hdrop
        obtain ⟨hx, hdrop'⟩ := drop_step hdrop
        have hx' : (spansV s)[k]? = some (curSpanV (a, pos)) := by simp [spansV, hx]
        have hjt : J k (wr.iterAt W.heap.size s (pos + 1)) := hJ k wr _ (some W.heap.size) hj (grownBy_putObj' wr W.heap.size _) (fun r e => by cases e; exact ⟨Nat.le_refl _, _, hit, rfl⟩)
        have hit2 := Lib.iterAt_heap wr W.heap.size s pos (pos + 1) hit
        have hbox2 : Boxed (wr.iterAt W.heap.size s (pos + 1)) Bs 9 (.string s) := hbox1.kept (grownBy_putObj' wr W.heap.size _) (fun e => by cases e; omega)
        obtain ⟨fn, tmps, assign, body, hy, hR⟩ := hY k _ _ hx' hjt
        have Hx := Lib.hid hdrop'
        clear hn he hY hb hg hdrop hx hx' hdrop' hJx
        simp only [curSpanV] at hy
        gi_wp2
        refine ⟨rfl, hR.mono ?_⟩
        rintro e W3 ⟨hrf, (⟨rfl, hJ3⟩ | ⟨rfl, hJx3⟩)⟩
        · have hit3 := hrf.other _ _ (Nat.le_refl _) hit2 rfl
          have hbox3 := hrf.boxed hbox2 rfl
          gi_wp2
          go_roundw
          case rel => exact ⟨pos + 1, pos + 1, k + 1, by go_num, hit3, hbox3, by omega, by omega, Hx.out, hJ3⟩
          case measure => simp [World.iterPos, hit, hit3]; omega
        · gi_wp2
          refine bodyPost_ret (results_none rfl _ _ _) rfl ?_
          exact ⟨⟨_, rfl⟩, .inr hJx3⟩
      · -- another sign
        obtain ⟨h1, h2, h3, h4⟩ := decode_sign s pos hlt hb
        have hle := decode_le s pos
        have hn' := fun ty => hn wr pos ty hit hlt
        obtain ⟨r, hr⟩ : ∃ r, r = (Utf8.decode s pos).1 := ⟨_, rfl⟩
        obtain ⟨wd, hw⟩ : ∃ wd, wd = (Utf8.decode s pos).2 := ⟨_, rfl⟩
        rw [← hr] at h1 hle hn'
        rw [← hw] at h2 h3 h4 hn'
        clear hr hw
        have hne : (((r : Nat) : Int) != 10) = true := by rw [bne_iff_ne]; omega
        have hdrop' : (spans s.data.toList).drop k = spansFrom (s.data.toList.drop (pos + wd)) (pos + wd) a := by
          rw [hdrop]
          refine spans_sign _ _ _ _ (by simpa using h3) fun j h5 h6 => ?_
          have hj : j < s.size := by omega
          rw [list_get s j hj]
          have := h4 j h5 h6
          rw [get_of s j hj] at this
          intro e
          exact this (by injection e)
        have hjt : J k (wr.iterAt W.heap.size s (pos + wd)) := hJ k wr _ (some W.heap.size) hj (grownBy_putObj' wr W.heap.size _) (fun r e => by cases e; exact ⟨Nat.le_refl _, _, hit, rfl⟩)
        have hit2 := Lib.iterAt_heap wr W.heap.size s pos (pos + wd) hit
        have hbox2 : Boxed (wr.iterAt W.heap.size s (pos + wd)) Bs 9 (.string s) := hbox1.kept (grownBy_putObj' wr W.heap.size _) (fun e => by cases e; omega)
        have Hx := Lib.hid hdrop'
        clear hn he hY hb hdrop hdrop' hJx h4 h1
        gi_wp2
        go_roundw
        case rel => exact ⟨pos + wd, a, k, rfl, hit2, hbox2, h3, by omega, Hx.out, hjt⟩
        case measure => simp [World.iterPos, hit, hit2]; omega
    · -- the end
      have hpe : pos = s.size := by omega
      have he' := fun ty => he wr pos ty hit hlt
      have hl : s.size = s.data.toList.length := by simp
      rw [hpe, hl, spans_end, ← hl] at hdrop
      obtain ⟨hx, _⟩ := drop_step hdrop
      have hlen := drop_one hdrop
      have hx' : (spansV s)[k]? = some (curSpanV (a, s.size)) := by simp [spansV, hx]
      obtain ⟨fn, tmps, assign, body, hy, hR⟩ := hY k _ _ hx' hj
      have hl0 : (spansV s).length = k + 1 := by simp [spansV, hlen]
      have Hl := Lib.hid hl0
      clear hn he hY hdrop hx hx' hlen hl hl0 hJx hpe
      simp only [curSpanV] at hy
      gi_wp2
      refine ⟨rfl, hR.mono ?_⟩
      rintro e W3 ⟨hrf, (⟨rfl, hJ3⟩ | ⟨rfl, hJx3⟩)⟩
      · gi_wp2
        go_end0
        rw [Hl.out]
        exact ⟨⟨_, rfl⟩, .inl hJ3⟩
      · gi_wp2
        go_end0
        exact ⟨⟨_, rfl⟩, .inr hJx3⟩
#print axioms Tryd.spans1_seq
end Go.Proofs
/- cursor.Where and cursor.Place of this program, in plain words over the parts of a text. Conditions: a text that a string can be. -/
namespace Go.Cur
/-- Where: the line and the column of a place, and the error; n lines lie ahead. -/
def whereL : List (Nat × Nat) → Int → Nat → Int × Int × Int
  | [], _, _ => (0, 0, 10)
  | (a, b) :: r, i, n => if i ≤ (b : Int) then ((n : Int) + 1, i - a + 1, 0) else whereL r i (n + 1)
theorem whereL_drop {sp : List (Nat × Nat)} {k a b : Nat} (h : sp[k]? = some (a, b)) (i : Int) : whereL (sp.drop k) i k = if i ≤ (b : Int) then ((k : Int) + 1, i - a + 1, 0) else whereL (sp.drop (k + 1)) i (k + 1) := by
  obtain ⟨hk, he⟩ := List.getElem?_eq_some_iff.1 h
  rw [List.drop_eq_getElem_cons hk, he]; rfl
theorem whereL_end (sp : List (Nat × Nat)) (i : Int) : whereL (sp.drop sp.length) i sp.length = (0, 0, 10) := by simp [whereL]
/-- Place: the place of a line and a column, and the error; n lines lie ahead. -/
def placeL : List (Nat × Nat) → Int → Int → Nat → Int × Int
  | [], _, _, _ => (0, 10)
  | (a, b) :: r, i, c, n => if (n : Int) + 1 = i ∧ c - 1 ≤ (b : Int) - a then ((a : Int) + c - 1, 0) else placeL r i c (n + 1)
theorem placeL_drop {sp : List (Nat × Nat)} {k a b : Nat} (h : sp[k]? = some (a, b)) (i c : Int) : placeL (sp.drop k) i c k = if (k : Int) + 1 = i ∧ c - 1 ≤ (b : Int) - a then ((a : Int) + c - 1, 0) else placeL (sp.drop (k + 1)) i c (k + 1) := by
  obtain ⟨hk, he⟩ := List.getElem?_eq_some_iff.1 h
  rw [List.drop_eq_getElem_cons hk, he]; rfl
theorem placeL_end (sp : List (Nat × Nat)) (i c : Int) : placeL (sp.drop sp.length) i c sp.length = (0, 10) := by simp [placeL]
end Go.Cur
namespace Go.Proofs
open Go.RowKit Go.Shelf Go.Cur
attribute [local go_sem] Oper.semAt_some

theorem spansV_get {s : ByteArray} {k : Nat} {x : Array Value} (h : (spansV s)[k]? = some x) : ∃ a b, x = #[.int .i64 (a : Nat), .int .i64 (b : Nat)] ∧ (spans s.data.toList)[k]? = some (a, b) := by
  simp only [spansV, List.getElem?_map, Option.map_eq_some_iff] at h
  obtain ⟨⟨a, b⟩, hp, rfl⟩ := h
  exact ⟨a, b, rfl, hp⟩

theorem where_close {w W : World} {n B : Nat} {u1 u2 u3 u4 : Value} (c1 : Boxed W (n + 1) 3 u1) (c2 : Boxed W (n + 1 + 1) 3 u2) (c3 : Boxed W (n + 1 + 1 + 1) 30 u3) (c4 : Boxed W (n + 1 + 1 + 1 + 1) 3 u4) (hB1 : Below n w W) (v1 v2 v3 v4 : Value) :
    RF stillT B W ((((W.setCell ⟨n + 1 + 1 + 1 + 1, 0, none⟩ v4).setCell ⟨n + 1, 0, none⟩ v1).setCell ⟨n + 1 + 1, 0, none⟩ v2).setCell ⟨n + 1 + 1 + 1, 0, none⟩ v3).drew ∧
    Boxed ((((W.setCell ⟨n + 1 + 1 + 1 + 1, 0, none⟩ v4).setCell ⟨n + 1, 0, none⟩ v1).setCell ⟨n + 1 + 1, 0, none⟩ v2).setCell ⟨n + 1 + 1 + 1, 0, none⟩ v3).drew (n + 1) 3 v1 ∧
    Boxed ((((W.setCell ⟨n + 1 + 1 + 1 + 1, 0, none⟩ v4).setCell ⟨n + 1, 0, none⟩ v1).setCell ⟨n + 1 + 1, 0, none⟩ v2).setCell ⟨n + 1 + 1 + 1, 0, none⟩ v3).drew (n + 1 + 1) 3 v2 ∧
    Boxed ((((W.setCell ⟨n + 1 + 1 + 1 + 1, 0, none⟩ v4).setCell ⟨n + 1, 0, none⟩ v1).setCell ⟨n + 1 + 1, 0, none⟩ v2).setCell ⟨n + 1 + 1 + 1, 0, none⟩ v3).drew (n + 1 + 1 + 1) 30 v3 ∧
    Below n w ((((W.setCell ⟨n + 1 + 1 + 1 + 1, 0, none⟩ v4).setCell ⟨n + 1, 0, none⟩ v1).setCell ⟨n + 1 + 1, 0, none⟩ v2).setCell ⟨n + 1 + 1 + 1, 0, none⟩ v3).drew := by
  have e1 := c1.other (B' := n + 1 + 1 + 1 + 1) (by omega) v4
  have e2 := (c2.other (B' := n + 1 + 1 + 1 + 1) (by omega) v4).other (B' := n + 1) (by omega) v1
  have e3 := ((c3.other (B' := n + 1 + 1 + 1 + 1) (by omega) v4).other (B' := n + 1) (by omega) v1).other (B' := n + 1 + 1) (by omega) v2
  refine ⟨(((((RF.refl _).set c4 rfl v4).set e1 rfl v1).set e2 rfl v2).set e3 rfl v3).drew, ?_, ?_, ?_, ?_⟩
  · exact ((e1.set v1).other (by omega) v2).other (by omega) v3
  · exact (e2.set v2).other (by omega) v3
  · exact e3.set v3
  · exact ((((hB1.setCell (p := ⟨n + 1 + 1 + 1 + 1, 0, none⟩) (by simp; omega) v4).setCell (p := ⟨n + 1, 0, none⟩) (by simp) v1).setCell (p := ⟨n + 1 + 1, 0, none⟩) (by simp; omega) v2).setCell (p := ⟨n + 1 + 1 + 1, 0, none⟩) (by simp; omega) v3).drew


end Go.Proofs
/- cursor.Place of this program, in plain words over the parts of a text. Conditions: a text of at most a million bytes. -/
namespace Go.Proofs
open Go.RowKit Go.Shelf Go.Cur
attribute [local go_sem] Oper.semAt_some


end Go.Proofs
/- cursor.lineOf of this program: the line of a part of a text. Conditions: a text of at most a million bytes. -/
namespace Go.Cur
/-- The line of a part: its first byte, the place behind its last one, where the next line begins. -/
def lineAt (l : List UInt8) (p : Nat × Nat) : Nat × Nat × Nat :=
  if p.2 = l.length then (p.1, p.2, p.2) else (p.1, if p.1 < p.2 ∧ l[p.2 - 1]? = some 13 then p.2 - 1 else p.2, p.2 + 1)
def lines (l : List UInt8) : List (Nat × Nat × Nat) := ((spans l).takeWhile fun p => p.1 != l.length).map (lineAt l)
end Go.Cur
namespace Go.Proofs
open Go.RowKit Go.Shelf Go.Cur
attribute [local go_sem] Oper.semAt_some

def lineV (p : Nat × Nat × Nat) : Value := .agg #[.int .i64 (p.1 : Int), .int .i64 (p.2.1 : Int), .int .i64 (p.2.2 : Int)]
def linesV (s : ByteArray) : List (Array Value) := (lines s.data.toList).map fun p => #[lineV p]

set_option maxHeartbeats 400000 in
theorem Tryd.lineOf_calls (s : ByteArray) (a b : Nat) (w : World) (hs : s.size ≤ 1000000) (hab : a ≤ b) (hb : b ≤ s.size) :
    Calls Tryd.prog 51 #[.string s, .int .i64 (a : Int), .int .i64 (b : Int)] w fun e w' => e = .returned (lineV (lineAt s.data.toList (a, b))) ∧ Below w.heap.size w w' := by
  by_cases he : b = s.size
  · have hbe : (((b : Nat) : Int) == (s.size : Int)) = true := by rw [beq_iff_eq]; omega
    have hl : lineAt s.data.toList (a, b) = (a, b, b) := by simp [lineAt, he]
    have Hl := Lib.hid hl
    clear hl he
    go_enter Tryd.func51, Tryd.ntmps51
    go_wp2
    rw [Hl.out]
    exact bodyPost_ret (v := .agg #[.int .i64 a, .int .i64 b, .int .i64 b]) (by simp [results, Tryd.results51, go_sem]) rfl ⟨rfl, (Below.refl _ w).alloc (Nat.le_refl _) _⟩
  · have hbe : (((b : Nat) : Int) == (s.size : Int)) = false := by rw [beq_eq_false_iff_ne]; omega
    by_cases hlt : a < b
    · have hgt : decide ((a : Int) < (b : Int)) = true := by simpa using hlt
      have hb1 : 0 ≤ (b : Int) - 1 := by omega
      have hb2 : ((b : Int) - 1).toNat = b - 1 := by omega
      have hb3 : b - 1 < s.size := by omega
      by_cases h13 : s[b - 1]'hb3 = 13
      · have h13' : (((s[b - 1]'hb3).toNat : Int) == 13) = true := by rw [h13]; rfl
        have hl : lineAt s.data.toList (a, b) = (a, b - 1, b + 1) := by
          simp only [lineAt]; rw [if_neg (by simpa using he), list_get s (b - 1) hb3, h13, if_pos ⟨hlt, rfl⟩]
        have Hl := Lib.hid hl
        clear hl he h13
        go_enter Tryd.func51, Tryd.ntmps51
        go_wp2
        rw [Hl.out]
        have e3 : ((b - 1 : Nat) : Int) = (b : Int) - 1 := by omega
        refine bodyPost_ret (v := .agg #[.int .i64 a, .int .i64 ((b : Int) - 1), .int .i64 ((b : Int) + 1)]) (by simp [results, Tryd.results51, go_sem]) rfl ⟨?_, ((Below.refl _ w).alloc (Nat.le_refl _) _).alloc (by simp) _⟩
        simp [lineV, e3]
      · have h13' : (((s[b - 1]'hb3).toNat : Int) == 13) = false := by
          rw [beq_eq_false_iff_ne]
          intro e
          exact h13 (UInt8.toNat_inj.1 (by have e' : (s[b - 1]'hb3).toNat = 13 := by omega
                                           exact e'))
        have hl : lineAt s.data.toList (a, b) = (a, b, b + 1) := by
          simp only [lineAt]; rw [if_neg (by simpa using he), list_get s (b - 1) hb3, if_neg (fun h => h13 (Option.some.inj h.2))]
        have Hl := Lib.hid hl
        clear hl he h13
        go_enter Tryd.func51, Tryd.ntmps51
        go_wp2
        rw [Hl.out]
        refine bodyPost_ret (v := .agg #[.int .i64 a, .int .i64 b, .int .i64 ((b : Int) + 1)]) (by simp [results, Tryd.results51, go_sem]) rfl ⟨?_, ((Below.refl _ w).alloc (Nat.le_refl _) _).alloc (by simp) _⟩
        simp [lineV]
    · have hgt : decide ((a : Int) < (b : Int)) = false := by simpa using hlt
      have hl : lineAt s.data.toList (a, b) = (a, b, b + 1) := by
        simp only [lineAt]; rw [if_neg (by simpa using he), if_neg (fun h => hlt h.1)]
      have Hl := Lib.hid hl
      clear hl he
      go_enter Tryd.func51, Tryd.ntmps51
      go_wp2
      rw [Hl.out]
      refine bodyPost_ret (v := .agg #[.int .i64 a, .int .i64 b, .int .i64 ((b : Int) + 1)]) (by simp [results, Tryd.results51, go_sem]) rfl ⟨?_, ((Below.refl _ w).alloc (Nat.le_refl _) _).alloc (by simp) _⟩
      simp [lineV]

#print axioms Tryd.lineOf_calls
end Go.Proofs
/- A region that draws its order, within a round of a loop over a function: it goes as it goes outside one, if it holds no defer statement. -/
namespace Go
open Go.RowKit
variable {F : Fence} {n : Nat} {P : Program} {ops : Array Oper} {Q : Exit → Act → World → Prop} {md : Region.Mode}

theorem Oper.wpIn_into {o : Oper} {a : Act} {w : World} {K : Act → World → Prop} (l : Nat) (hro : F.round = none) (hnd : ∀ c, o.op ≠ .defer c) (h : o.wpIn F n P a w K Q) : o.wpIn (F.inRound l) n P a w K Q := by
  unfold Oper.wpIn at h ⊢
  refine ⟨h.1, ?_⟩
  have h2 := h.2
  rw [hro, Oper.semAt_none] at h2
  rw [Fence.inRound_round, Oper.semAt_some l _ _ hnd]
  revert h2
  generalize (execOp a.eval o).run P w = r
  intro h2
  cases r with
  | ok v w' => cases v <;> exact h2
  | halt c w' => cases c <;> exact h2

theorem wpAnyIn_into (l : Nat) (hro : F.round = none) (hnd : ∀ (i : Nat) (o : Oper), ops[i]? = some o → ∀ c, o.op ≠ .defer c) :
    ∀ (fuel : Nat) (listed : Array Bool) (a : Act) (w : World), wpAnyIn F n P md ops Q fuel listed a w → wpAnyIn (F.inRound l) n P md ops Q fuel listed a w
  | 0, _, _, _, h => h
  | fuel + 1, listed, a, w, h => by
    refine ⟨h.1, fun i hi => ?_⟩
    have h1 := wpOpIn_mono (K' := wpAnyIn (F.inRound l) n P md ops Q fuel (listed.setIfInBounds i true)) (fun a w => wpAnyIn_into l hro hnd fuel _ a w) (h.2 i hi)
    unfold wpOpIn at h1 ⊢
    cases ho : ops[i]? with
    | none => simpa [ho] using h1
    | some o =>
      simp only [ho] at h1 ⊢
      split
      · rename_i hw
        rw [if_pos hw] at h1
        exact Oper.wpIn_into l hro (hnd i o ho) h1
      · rename_i hw
        rw [if_neg hw] at h1
        exact h1

def Oper.noDefer (o : Oper) : Bool := match o.op with | .defer _ => false | _ => true
theorem noDefer_spec (h : ops.all Oper.noDefer = true) (i : Nat) (o : Oper) (ho : ops[i]? = some o) : ∀ c, o.op ≠ .defer c := by
  intro c e
  obtain ⟨hi, rfl⟩ := Array.getElem?_eq_some_iff.1 ho
  have := (Array.all_eq_true.1 h) i hi
  simp [Oper.noDefer, e] at this

theorem wpIn_region_round {id : Nat} {a : Act} {w : World} {l : Nat} (hro : F.round = none) (hm : P.follows .mixedOrders = true) (hnd : ops.all Oper.noDefer = true)
    (h : wpAnyIn F n P .any ops Q ops.size (Array.replicate ops.size false) a w.drew) : (Code.region id ops true).wpIn (F.inRound l) n P Q a w :=
  wpIn_region_any hm (wpAnyIn_into l hro (noDefer_spec hnd) _ _ _ _ h)

theorem wpIn_region_quiet_round {id : Nat} {a : Act} {w : World} {ol : List Oper} {l : Nat} (hro : F.round = none) (hm : P.follows .mixedOrders = true) (hnd : ol.toArray.all Oper.noDefer = true) (hB : Region.lexB .any ol.toArray = true)
    (h : wpQuietIn F n P ol.toArray (fun w' => ∃ m, w' = w.drewN m) (fun a' => ∀ w', (∃ m, w' = w.drewN m) → Q .normal a' w') ol a) : (Code.region id ol.toArray true).wpIn (F.inRound l) n P Q a w := by
  refine wpIn_region_round hro hm hnd ?_
  simp only [Region.lexB, Bool.and_eq_true] at hB
  refine wpAnyIn_of_quiet (C := fun w' => ∃ m, w' = w.drewN m) (Q := fun a' => ∀ w', (∃ m, w' = w.drewN m) → Q .normal a' w') hro (fun _ w' hw' h => h w' hw') _ _ _ _ ⟨1, rfl⟩ ?_
  have := wpAnyQIn_lex (F := F) (n := n) (md := .any) hB.1 ol 0 (Array.replicate ol.toArray.size false) a (by simp) (by simpa using hB.2) h
  simpa using this
#print axioms wpIn_region_quiet_round
end Go
/- The iterator cursor.lines of this program: it tells the lines of a text. Conditions: a text of at most a million bytes. -/
namespace Go.Proofs
open Go.RowKit Go.Shelf Go.Cur
attribute [local go_sem] Oper.semAt_some

theorem Tryd.lines_calls (s : ByteArray) (w : World) :
    Calls Tryd.prog 34 #[.string s] w fun e w' => e = .returned (.func (.func 49) #[] #[.pointer (some ⟨w.heap.size, 0, none⟩)]) ∧ w' = w.alloc (.cells #[.string s] 9) := by
  go_enter Tryd.func34, Tryd.ntmps34
  go_wp2
  go_ret
  exact ⟨rfl, rfl⟩

set_option maxRecDepth 100000 in
set_option maxHeartbeats 1000000 in
theorem Tryd.lines1_seq (Bs : Nat) (s : ByteArray) (w : World) (hs : s.size ≤ 1000000) (hB : Bs < w.heap.size) (hbox : Boxed w Bs 9 (.string s)) :
    Seq stillT Tryd.prog 49 #[.pointer (some ⟨Bs, 0, none⟩)] (linesV s) w := by
  intro l J Jx W hW hJ hJx hY h0
  have hbW : Boxed W Bs 9 (.string s) := (hW.block Bs hB).trans hbox
  have hBW : Bs < W.heap.size := hbW.lt
  have hcW := hbW.cell
  refine (callsIn_wide (n := 0)).1 (callsIn_of_wp_marks Tryd.func49 rfl trivial ?_ rfl)
  simp only [Tryd.ntmps49, List.size_toArray, List.length_cons, List.length_nil, Nat.reduceAdd, Nat.reduceSub, Array.replicate_succ, Array.replicate_zero, List.push_toArray, List.append_toArray, List.nil_append, List.cons_append]
  gi_wp2_with (refine ⟨trivial, rfl, ?_⟩; gi_at_call 50; refine (callsIn_wide.2 (Tryd.spans_calls _ _)).mono ?_; rintro e w' ⟨rfl, rfl⟩)
  obtain ⟨V, hV⟩ : ∃ V, V = (W.alloc (Obj.cells #[Value.func (Fn.yield l) #[] #[]] 81)).alloc (Obj.cells #[Value.string s] 9) := ⟨_, rfl⟩
  have hVs : V.heap.size = W.heap.size + 1 + 1 := by rw [hV]; simp
  have b0 : Boxed V W.heap.size 81 (.func (.yield l) #[] #[]) := by rw [hV]; exact (Boxed.new W 81 _).alloc _
  have b1 : Boxed V (W.heap.size + 1) 9 (.string s) := by rw [hV]; exact Boxed.at 9 _ (by simp)
  have b2 : Boxed V Bs 9 (.string s) := by rw [hV]; exact (hbW.alloc _).alloc _
  have j0 : J 0 V := by rw [hV]; exact hJ.alloc _ (hJ.alloc _ h0)
  rw [← hV]
  clear hV
  have hup : ∀ {X : World} {row : Option Nat}, (∀ r, row = some r → V.heap.size ≤ r ∧ ∃ o : Obj, X.heap[r]? = some o ∧ o.isCells = false) → (∀ r, row = some r → W.heap.size ≤ r ∧ ∃ o : Obj, X.heap[r]? = some o ∧ o.isCells = false) :=
    fun hr r e => ⟨by have := (hr r e).1; omega, (hr r e).2⟩
  refine range_seq (gf := 67) (lb := #[.pointer (some ⟨W.heap.size + 1, 0, none⟩)]) rfl (enters_of Tryd.func67 (by kernel_rfl) rfl)
    (Tryd.spans1_seq _ s V (by unfold maxLen; omega) (by omega) b1) (Below.refl _ _) (fun k x h => by obtain ⟨a, b, rfl, _⟩ := spansV_get h; rfl)
    (fun k X => Boxed X W.heap.size 81 (.func (.yield l) #[] #[]) ∧ Boxed X Bs 9 (.string s) ∧ k ≤ (linesV s).length ∧ J k X)
    (fun c X => c = .ret ∧ (J (linesV s).length X ∨ Jx X))
    (fun k X Y row h hg hr => ⟨h.1.own hg hr, h.2.1.own hg hr, h.2.2.1, hJ k X Y row h.2.2.2 hg (hup hr)⟩)
    (fun c _ X Y row h hg hr => ⟨h.1, h.2.imp (fun h => hJ _ X Y row h hg (hup hr)) (fun h => hJx () X Y row h hg (hup hr))⟩)
    ⟨b0, b2, Nat.zero_le _, j0⟩
    (fun x a' _ => a' = { tmps := #[.func (.yield l) #[] #[], .pointer (some ⟨Bs, 0, none⟩), .pointer (some ⟨W.heap.size, 0, none⟩), x[0]!, x[1]!, .string s, .func (.func 67) #[] #[.pointer (some ⟨W.heap.size + 1, 0, none⟩)], x[0]!, x[1]!, undef, undef, undef, undef, undef, undef, undef, undef, undef, undef, undef, undef, undef], defers := [] })
    (fun _ _ _ _ _ _ h _ _ => h) ?assign ?body ?done ?stop
  case assign =>
    intro l k x W K hx hi hK
    obtain ⟨a, b, rfl, hx⟩ := spansV_get hx
    gi_wp2
    exact hK _ _ (RF.refl _) hi rfl
  case body =>
    rintro l' k x a' X hx0 ⟨c0, c1, hk, hj⟩ rfl
    obtain ⟨a, b, rfl, hx⟩ := spansV_get hx0
    clear hx0
    have hc0 := c0.cell
    have hc1 := c1.cell
    obtain ⟨hab, hbl, hkl⟩ := spans_get hx
    simp only [Array.length_toList, show s.data.size = s.size from rfl] at hbl hkl
    have hmx : Tryd.prog.follows .mixedOrders = true := by kernel_rfl
    have hfn : ∀ f, Fence.wide.fn f := fun _ => trivial
    have hdp : Fence.wide.depth = none := rfl
    have hll : (linesV s).length = ((spans s.data.toList).takeWhile fun p => p.1 != s.data.toList.length).length := by simp [linesV, lines]
    have hst := takeWhile_step (p := fun p : Nat × Nat => p.1 != s.data.toList.length) (by rw [← hll]; exact hk) hx
    by_cases ha : a = s.size
    · have hae : (((a : Nat) : Int) == (s.size : Int)) = true := by rw [beq_iff_eq]; omega
      have hkk : (linesV s).length = k := by rw [hll]; exact hst.2 (by simp [ha])
      have Hk := Lib.hid hkk
      clear hst hll hkk hx ha hY
      simp only [List.getElem!_toArray, List.getElem!_cons_zero, List.getElem!_cons_succ]
      gi_wp2
      refine wpIn_region_quiet_round rfl hmx (by kernel_rfl) (by kernel_rfl) ?_
      repeat (gi_big_quiet_step (fail))
      refine wpQuietIn_nil ?_
      intro _ hw1
      obtain ⟨nq, hw2⟩ := hw1
      subst hw2
      gi_wp2
      rw [Hk.out]
      exact ⟨⟨Nat.le_refl _, fun _ _ _ h _ => h, fun _ _ _ _ _ h => h⟩, rfl, .inl (hJ k X _ none hj ⟨rfl, rfl, rfl, Nat.le_refl _, fun _ _ _ => rfl⟩ (fun r e => by cases e))⟩
    · have hae : (((a : Nat) : Int) == (s.size : Int)) = false := by rw [beq_eq_false_iff_ne]; omega
      obtain ⟨hst1, hst2⟩ := hst.1 (by simpa using ha)
      have hxl : (linesV s)[k]? = some #[lineV (lineAt s.data.toList (a, b))] := by simp only [linesV, lines, List.getElem?_map, hst1, Option.map_some]
      have hkk : k + 1 ≤ (linesV s).length := by rw [hll]; exact hst2
      have hY1 : ∀ w1, Below X.heap.size X w1 → ∃ fn tmps assign body, (Instr.yield l #[lineV (lineAt s.data.toList (a, b))]).run Tryd.prog w1 = .ok (.round l fn tmps assign body) w1 ∧
          RoundIn (Fence.wide.inRound l') 0 Tryd.prog l fn tmps assign body w1 fun e W' => ∃ bb, e = .returned (.bool bb) ∧ RF stillT W.heap.size w1 W' ∧ ((bb = true ∧ J (k + 1) W') ∨ (bb = false ∧ Jx W')) := by
        intro w1 hb1
        obtain ⟨fn, tmps, assign, body, hy, hR⟩ := hY k _ w1 hxl (hJ.below hj hb1 (Nat.le_refl _))
        refine ⟨fn, tmps, assign, body, hy, (hR.mono ?_).into l'⟩
        rintro e W' ⟨h1, ⟨rfl, h2⟩ | ⟨rfl, h2⟩⟩
        · exact ⟨true, rfl, h1, .inl ⟨rfl, h2⟩⟩
        · exact ⟨false, rfl, h1, .inr ⟨rfl, h2⟩⟩
      have HY := Lib.hid hY1
      have hlt0 : W.heap.size < X.heap.size := c0.lt
      have hltB : Bs < X.heap.size := c1.lt
      obtain ⟨lv, hlv⟩ : ∃ lv, lv = lineV (lineAt s.data.toList (a, b)) := ⟨_, rfl⟩
      clear hst hll hx ha hY hY1 hst1 hst2 hxl
      have hlo := fun w1 : World => Tryd.lineOf_calls s a b w1 hs hab hbl
      rw [← hlv] at HY hlo
      have HL := Lib.hid hlo
      clear hlv hlo
      simp only [List.getElem!_toArray, List.getElem!_cons_zero, List.getElem!_cons_succ]
      gi_wp2
      refine wpIn_region_round rfl hmx (by kernel_rfl) ?_
      refine wpAnyIn_take (i := 0) (v := ?_) rfl rfl (by kernel_rfl) (by kernel_rfl) (by kernel_rfl) (fun _ _ _ h => h) ⟨Or.inl ⟨by rfl, ?_⟩, fun _ => rfl⟩ ?_
      rotate_left
      · (intro w0; go_simp; try with_reducible rfl)
      refine wpAnyIn_ready (rs := [1]) (by kernel_rfl) (by simp) (AllReadyIn.cons rfl (fun K hK => ?_) AllReadyIn.nil); go_simp; refine hK _ _ ?_; clear hK K
      refine wpAnyIn_ready (rs := [2]) (by kernel_rfl) (by simp) (AllReadyIn.cons rfl (fun K hK => ?_) AllReadyIn.nil); go_simp; refine hK _ _ ?_; clear hK K
      refine wpAnyIn_ready (rs := [3]) (by kernel_rfl) (by simp) (AllReadyIn.cons rfl (fun K hK => ?_) AllReadyIn.nil); go_simp; refine hK _ _ ?_; clear hK K
      refine wpAnyIn_ready (rs := [4]) (by kernel_rfl) (by simp) (AllReadyIn.cons rfl (fun K hK => ?_) AllReadyIn.nil); go_simp; refine hK _ _ ?_; clear hK K
      refine wpAnyIn_take (i := 7) (v := ?_) rfl rfl (by kernel_rfl) (by kernel_rfl) (by kernel_rfl) (fun _ _ _ h => h) ⟨Or.inl ⟨by rfl, ?_⟩, fun _ => rfl⟩ ?_
      rotate_left
      · (intro w0; go_simp; try with_reducible rfl)
      refine wpAnyIn_take (i := 8) (v := ?_) rfl rfl (by kernel_rfl) (by kernel_rfl) (by kernel_rfl) (fun _ _ _ h => h) ⟨Or.inl ⟨by rfl, ?_⟩, fun _ => rfl⟩ ?_
      rotate_left
      · (intro w0; go_simp; try with_reducible rfl)
      refine wpAnyIn_ready (rs := [5, 6]) (by kernel_rfl) (by simp) (AllReadyIn.cons rfl (fun K hK => ?_) (AllReadyIn.cons rfl (fun K hK => ?_) AllReadyIn.nil))
      · go_simp; refine hK _ _ ?_; clear hK K
        refine wpAnyIn_ready (rs := [6]) (by kernel_rfl) (by simp) (AllReadyIn.cons rfl (fun K hK => ?_) AllReadyIn.nil); go_simp; refine hK _ _ ?_; clear hK K
        refine wpAnyIn_ready (rs := [9]) (by kernel_rfl) (by simp) (AllReadyIn.cons rfl (fun K hK => ?_) AllReadyIn.nil); go_simp; refine (callsIn_wide.2 (HL.out _)).mono ?_; rintro e w1 ⟨rfl, hb1⟩; refine hK _ _ ?_; clear hK K
        have hb2 : Below X.heap.size X w1 := (Below.refl _ _).drew.trans hb1
        obtain ⟨fn, tmps, assign, body, hy, hR⟩ := HY.out w1 hb2
        refine wpAnyIn_ready (rs := [10]) (by kernel_rfl) (by simp) (AllReadyIn.cons rfl (fun K hK => ?_) AllReadyIn.nil); go_simp; refine hR.mono ?_; rintro e w2 ⟨bb, rfl, hrf, hor⟩; refine hK _ _ ?_; clear hK K
        refine wpAnyIn_ready (rs := [11]) (by kernel_rfl) (by simp) (AllReadyIn.cons rfl (fun K hK => ?_) AllReadyIn.nil); go_simp; refine hK _ _ ?_; clear hK K
        refine wpAnyIn_ready (rs := [12]) (by kernel_rfl) (by simp) (AllReadyIn.cons rfl (fun K hK => ?_) AllReadyIn.nil); go_simp; refine hK _ _ ?_; clear hK K
        refine wpAnyIn_done (by kernel_rfl) ?_ _
        have hrf2 : RF stillT V.heap.size X w2 := ((RF.refl X).below hb2 (Nat.le_refl _)).trans (hrf.mono (by omega))
        rcases hor with ⟨rfl, h2⟩ | ⟨rfl, h2⟩
        · gi_wp2
          exact ⟨hrf2, hrf2.boxed c0 rfl, hrf2.boxed c1 rfl, hkk, h2⟩
        · gi_wp2
          exact ⟨hrf2, rfl, .inr h2⟩
      · go_simp; refine hK _ _ ?_; clear hK K
        refine wpAnyIn_ready (rs := [5, 9]) (by kernel_rfl) (by simp) (AllReadyIn.cons rfl (fun K hK => ?_) (AllReadyIn.cons rfl (fun K hK => ?_) AllReadyIn.nil))
        · go_simp; refine hK _ _ ?_; clear hK K
          refine wpAnyIn_ready (rs := [9]) (by kernel_rfl) (by simp) (AllReadyIn.cons rfl (fun K hK => ?_) AllReadyIn.nil); go_simp; refine (callsIn_wide.2 (HL.out _)).mono ?_; rintro e w1 ⟨rfl, hb1⟩; refine hK _ _ ?_; clear hK K
          have hb2 : Below X.heap.size X w1 := (Below.refl _ _).drew.trans hb1
          obtain ⟨fn, tmps, assign, body, hy, hR⟩ := HY.out w1 hb2
          refine wpAnyIn_ready (rs := [10]) (by kernel_rfl) (by simp) (AllReadyIn.cons rfl (fun K hK => ?_) AllReadyIn.nil); go_simp; refine hR.mono ?_; rintro e w2 ⟨bb, rfl, hrf, hor⟩; refine hK _ _ ?_; clear hK K
          refine wpAnyIn_ready (rs := [11]) (by kernel_rfl) (by simp) (AllReadyIn.cons rfl (fun K hK => ?_) AllReadyIn.nil); go_simp; refine hK _ _ ?_; clear hK K
          refine wpAnyIn_ready (rs := [12]) (by kernel_rfl) (by simp) (AllReadyIn.cons rfl (fun K hK => ?_) AllReadyIn.nil); go_simp; refine hK _ _ ?_; clear hK K
          refine wpAnyIn_done (by kernel_rfl) ?_ _
          have hrf2 : RF stillT V.heap.size X w2 := ((RF.refl X).below hb2 (Nat.le_refl _)).trans (hrf.mono (by omega))
          rcases hor with ⟨rfl, h2⟩ | ⟨rfl, h2⟩
          · gi_wp2
            exact ⟨hrf2, hrf2.boxed c0 rfl, hrf2.boxed c1 rfl, hkk, h2⟩
          · gi_wp2
            exact ⟨hrf2, rfl, .inr h2⟩
        · go_simp; refine (callsIn_wide.2 (HL.out _)).mono ?_; rintro e w1 ⟨rfl, hb1⟩; refine hK _ _ ?_; clear hK K
          have hc0' : w1.cell? ⟨W.heap.size, 0, none⟩ = some (.func (.yield l) #[] #[]) := (hb1.cell (p := ⟨W.heap.size, 0, none⟩) hlt0).trans hc0
          refine wpAnyIn_ready (rs := [5]) (by kernel_rfl) (by simp) (AllReadyIn.cons rfl (fun K hK => ?_) AllReadyIn.nil); go_simp; refine hK _ _ ?_; clear hK K
          have hb2 : Below X.heap.size X w1 := (Below.refl _ _).drew.trans hb1
          obtain ⟨fn, tmps, assign, body, hy, hR⟩ := HY.out w1 hb2
          refine wpAnyIn_ready (rs := [10]) (by kernel_rfl) (by simp) (AllReadyIn.cons rfl (fun K hK => ?_) AllReadyIn.nil); go_simp; refine hR.mono ?_; rintro e w2 ⟨bb, rfl, hrf, hor⟩; refine hK _ _ ?_; clear hK K
          refine wpAnyIn_ready (rs := [11]) (by kernel_rfl) (by simp) (AllReadyIn.cons rfl (fun K hK => ?_) AllReadyIn.nil); go_simp; refine hK _ _ ?_; clear hK K
          refine wpAnyIn_ready (rs := [12]) (by kernel_rfl) (by simp) (AllReadyIn.cons rfl (fun K hK => ?_) AllReadyIn.nil); go_simp; refine hK _ _ ?_; clear hK K
          refine wpAnyIn_done (by kernel_rfl) ?_ _
          have hrf2 : RF stillT V.heap.size X w2 := ((RF.refl X).below hb2 (Nat.le_refl _)).trans (hrf.mono (by omega))
          rcases hor with ⟨rfl, h2⟩ | ⟨rfl, h2⟩
          · gi_wp2
            exact ⟨hrf2, hrf2.boxed c0 rfl, hrf2.boxed c1 rfl, hkk, h2⟩
          · gi_wp2
            exact ⟨hrf2, rfl, .inr h2⟩
  case done =>
    rintro D X hD ⟨c0, c1, hk, hj⟩ hK
    gi_wp2
    refine ⟨by simp, .inl ⟨_, _, rfl, run_takeDeferred hK, ?_⟩⟩
    refine ⟨_, results_none rfl _ _ _, ⟨_, rfl⟩, .inl ?_⟩
    have he : (spansV s).length = (linesV s).length := by
      have h1 : (linesV s).length ≤ (spansV s).length := by simp only [linesV, lines, spansV, List.length_map]; exact (List.takeWhile_sublist _).length_le
      omega
    rw [← he]
    exact hJ.putObj _ hj (by omega) hK rfl
  case stop =>
    rintro D r X hD ⟨rfl, hj⟩ hK
    gi_wp2
    refine ⟨by simp, .inl ⟨_, _, rfl, run_takeDeferred hK, ?_⟩⟩
    refine ⟨_, results_none rfl _ _ _, ⟨_, rfl⟩, ?_⟩
    exact hj.imp (fun h => hJ.putObj _ h (by omega) hK rfl) (fun h => hJx.putObj (s := ()) _ h (by omega) hK rfl)
#print axioms Tryd.lines1_seq
end Go.Proofs
/- slices.Collect and slices.AppendSeq as this program calls them, over an iterator of lines; cursor.Lines. Conditions: a text of at most a million bytes. -/
namespace Go
open Go.RowKit
theorem RF.appended {T : Nat → TypeId → Bool} {W w1 : World} {n₀ B B0 : Nat} {t e : TypeId} {size : Nat} {v v' : Value} {k : Nat} {xs : List Value} {tmp : Obj}
    (hrow : W.ownsRow n₀ e size v k xs) (ht : T B t = false) (he : ∀ j, T j e = false) (hgrow : (W.alloc tmp).grownBy w1 v.ownBlock) (hv1 : Boxed w1 B t v) : RF T B0 W (w1.setCell ⟨B, 0, none⟩ v') := by
  refine RF.set (RF.grown ((RF.refl W).alloc tmp) hgrow fun j ej o ho => ?_) hv1 ht v'
  rcases (hrow.alloc tmp).2 with ⟨rfl, _⟩ | ⟨g, cap, cur, rfl, _, hgb, _⟩
  · simp [Value.ownBlock] at ej
  · obtain rfl : g = j := by simpa [Value.ownBlock] using ej
    rw [hgb] at ho; cases ho; exact ⟨_, _, _, rfl, he _⟩
end Go
namespace Go.Proofs
open Go.RowKit Go.Shelf Go.Cur
attribute [local go_sem] Oper.semAt_some

def lineCells (ps : List (Nat × Nat × Nat)) : List Value := ps.flatMap fun p => [.int .i64 (p.1 : Int), .int .i64 (p.2.1 : Int), .int .i64 (p.2.2 : Int)]
theorem lineCells_snoc (ps : List (Nat × Nat × Nat)) (a b c : Nat) : lineCells (ps ++ [(a, b, c)]) = lineCells ps ++ [.int .i64 (a : Int), .int .i64 (b : Int), .int .i64 (c : Int)] := by simp [lineCells]
theorem take_get {α : Type} {l : List α} {k : Nat} {x : α} (h : l[k]? = some x) : l.take (k + 1) = l.take k ++ [x] := by
  obtain ⟨hk, rfl⟩ := List.getElem?_eq_some_iff.1 h
  exact List.take_succ_eq_append_getElem hk

theorem map_get {α β : Type} {f : α → β} {l : List α} {k : Nat} {x : β} (h : (l.map f)[k]? = some x) : ∃ p, l[k]? = some p ∧ x = f p := by
  rw [List.getElem?_map, Option.map_eq_some_iff] at h
  obtain ⟨p, h1, h2⟩ := h
  exact ⟨p, h1, h2.symm⟩
theorem curcells_new (W : World) (c : Array Value) (t : TypeId) : ∀ (j : Nat) (u : Value), c.toList[j]? = some u → (W.alloc (.cells c t)).cell? ((⟨W.heap.size, 0, none⟩ : Addr).add j) = some u := by
  intro j u h
  have e := World.alloc_heap_new W (.cells c t)
  have hb : ((⟨W.heap.size, 0, none⟩ : Addr).add j) = ⟨W.heap.size, j, none⟩ := by
    unfold Addr.add
    split
    · rename_i h0; rw [h0]
    · simp
  rw [hb]
  unfold World.cell?
  simp only [e]
  simpa using h

theorem Tryd.info39 : (Tryd.prog.info? 39).map (fun i => (i.zero, i.size, i.bytes)) = some (some (.agg #[.int .i64 0, .int .i64 0, .int .i64 0]), 3, 24) := by kernel_rfl

set_option maxRecDepth 100000 in
set_option maxHeartbeats 1000000 in
theorem Tryd.AppendSeq_calls (ps : List (Nat × Nat × Nat)) (hlen : ps.length ≤ 2000000) (gf : Nat) (lb : Array Value) (eg : ∀ args w, (callFunc gf args).run Tryd.prog w = .ok (.enter gf args) w) (w : World)
    (hseq : Seq stillT Tryd.prog gf lb (ps.map fun p => #[lineV p]) w) :
    Calls Tryd.prog 48 #[.slice none 0 0, .func (.func gf) #[] lb] w fun e w' => ∃ v, e = .returned v ∧ w'.ownsRow w.heap.size 39 3 v ps.length (lineCells ps) ∧ Below w.heap.size w w' := by
  obtain ⟨i0, hi, hz0, hz1, hz2⟩ := info_parts Tryd.info39
  have hfn : ∀ f, Fence.wide.fn f := fun _ => trivial
  have hdp : Fence.wide.depth = none := rfl
  refine (callsIn_wide (n := 0)).1 (callsIn_of_wp_marks Tryd.func48 rfl trivial ?_ rfl)
  simp only [Tryd.ntmps48, List.size_toArray, List.length_cons, List.length_nil, Nat.reduceAdd, Nat.reduceSub, Array.replicate_succ, Array.replicate_zero, List.push_toArray, List.append_toArray, List.nil_append, List.cons_append]
  gi_wp2
  obtain ⟨V, hV⟩ : ∃ V, V = w.alloc (.cells #[.slice none 0 0] 36) := ⟨_, rfl⟩
  have hVs : V.heap.size = w.heap.size + 1 := by rw [hV]; simp
  have b0 : Boxed V w.heap.size 36 (.slice none 0 0) := by rw [hV]; exact Boxed.new w 36 _
  have hB : Below w.heap.size w V := by rw [hV]; exact (Below.refl _ w).alloc (Nat.le_refl _) _
  rw [← hV]
  clear hV
  refine range_seq (gf := gf) (lb := lb) rfl eg (hseq.later hB) (Below.refl _ _) (fun k x h => by obtain ⟨p, _, rfl⟩ := map_get h; rfl)
    (fun k W => ∃ v, Boxed W w.heap.size 36 v ∧ W.ownsRow w.heap.size 39 3 v k (lineCells (ps.take k)) ∧ k ≤ ps.length ∧ Below w.heap.size w W)
    (fun _ _ => False)
    (fun k X Y row h hg hr => by
      obtain ⟨v, h1, h2, h3, h4⟩ := h
      refine ⟨v, h1.own hg hr, h2.kept hg ?_, h3, h4.own (Nat.le_refl _) hg (by omega) hr⟩
      rcases h2.2 with ⟨rfl, _⟩ | ⟨g, cap, cur, rfl, _, hgb, _⟩
      · exact .inl rfl
      · refine .inr fun e' => ?_
        obtain ⟨_, o, ho, hc⟩ := hr g (by simpa [Value.ownBlock] using e'.symm)
        rw [hgb] at ho; cases ho; cases hc)
    (fun _ _ _ _ _ h _ _ => h.elim)
    ⟨_, b0, World.ownsRow_nil _ _ _ _, Nat.zero_le _, hB⟩
    (fun x a' W => ∃ a b c Bx, x = #[.agg #[.int .i64 (a : Nat), .int .i64 (b : Nat), .int .i64 (c : Nat)]] ∧ w.heap.size < Bx ∧ W.heap[Bx]? = some (.cells #[.int .i64 (a : Nat), .int .i64 (b : Nat), .int .i64 (c : Nat)] 39 (0, 0)) ∧
      a' = { tmps := #[.slice none 0 0, .func (.func gf) #[] lb, .pointer (some ⟨w.heap.size, 0, none⟩), undef, .slice none 0 0, .pointer (some ⟨Bx, 0, none⟩), .func (.func gf) #[] lb, x[0]!, undef, undef, undef, undef, undef], defers := [] })
    (fun x a' _ X Y row h hg hr => by
      obtain ⟨a, b, c, Bx, rfl, h1, h2, rfl⟩ := h
      refine ⟨a, b, c, Bx, rfl, h1, (hg.block Bx (Array.getElem?_eq_some_iff.1 h2).1 (fun e => ?_)).trans h2, rfl⟩
      obtain ⟨_, o, ho, hc⟩ := hr Bx e.symm
      rw [h2] at ho; cases ho; cases hc) ?assign ?body ?done ?stop
  case assign =>
    intro l k x W K hx hi hK
    obtain ⟨⟨a, b, c⟩, hp, rfl⟩ := map_get hx
    obtain ⟨v, h1, h2, h3, h4⟩ := hi
    clear hx
    simp only [lineV]
    gi_wp2
    exact hK _ _ ((RF.refl _).alloc _) ⟨v, h1.alloc _, h2.alloc _, h3, h4.alloc h4.size _⟩ ⟨a, b, c, W.heap.size, rfl, h1.lt, World.alloc_heap_new W _, rfl⟩
  case body =>
    rintro l k x a' W hx0 ⟨v, h1, h2, h3, h4⟩ ⟨a, b, c, Bx, rfl, hBx, hbx, rfl⟩
    obtain ⟨⟨a1, b1, c1⟩, hp, he⟩ := map_get hx0
    have he' : a = a1 ∧ b = b1 ∧ c = c1 := by simpa [lineV, Int.natCast_inj] using he
    obtain ⟨rfl, rfl, rfl⟩ := he'
    clear he hx0
    have hcv := h1.cell
    have hfv := h1.frozen
    have x0 : W.cell? ⟨Bx, 0, none⟩ = some (.int .i64 (a : Nat)) := by simp [World.cell?, hbx]
    have x1 : W.cell? ⟨Bx, 1, none⟩ = some (.int .i64 (b : Nat)) := by simp [World.cell?, hbx]
    have x2 : W.cell? ⟨Bx, 2, none⟩ = some (.int .i64 (c : Nat)) := by simp [World.cell?, hbx]
    have hkl : k < ps.length := (List.getElem?_eq_some_iff.1 hp).1
    have hpk := Lib.hid (take_get hp)
    have hml : k + 1 ≤ maxLen := by unfold maxLen; omega
    have hml2 : (k + 1) * 24 ≤ 140737488355328 := by omega
    have hsz : w.heap.size ≤ W.heap.size := h4.size
    clear hp hlen
    simp only [List.getElem!_toArray, List.getElem!_cons_zero]
    gi_wp2_with (gi_at_builtin; refine wpListIn_append_own _ rfl _ _ 36 rfl w.heap.size 39 i0 (.agg #[.int .i64 0, .int .i64 0, .int .i64 0]) 3 24 Tryd.underlying36 hi hz0 hz1 hz2 rfl (by decide) _ _ _ rfl (h2.alloc _) ⟨W.heap.size, 0, none⟩ 1 1 [.int .i64 (a : Nat), .int .i64 (b : Nat), .int .i64 (c : Nat)] rfl rfl (curcells_new W #[.int .i64 (a : Nat), .int .i64 (b : Nat), .int .i64 (c : Nat)] 39) (by simp [Value.oneCell']) hml hml2 (by simp; omega) ?_; intro v' w1 hown' hgrow _; obtain ⟨g', cap', rfl⟩ := ownsRow_succ hown'; obtain ⟨hv1, hv2, hr2, hk2, hb2⟩ := h1.appended (by decide) h2 h4.size (Nat.le_refl _) hown' hgrow; have hrf := RF.appended (T := stillT) (B0 := V.heap.size) (v' := .slice (some ⟨g', 0, none⟩) (k + 1) cap') h2 rfl (fun _ => rfl) hgrow hv1; have hc1 := hv1.cell; have hf1 := hv1.frozen)
    exact ⟨hrf, _, hv2, by rw [hpk.out, lineCells_snoc]; exact hr2, by omega, h4.trans hb2⟩
  case done =>
    rintro D W hD ⟨v, h1, h2, h3, h4⟩ hK
    have hcv := h1.cell
    rw [List.length_map, List.take_length] at h2
    have H2 := Lib.hid h2
    clear h2
    gi_wp2
    refine ⟨by simp, .inl ⟨_, _, rfl, run_takeDeferred hK, ?_⟩⟩
    exact ⟨_, results_tmp rfl _ _ _, v, rfl, ownsRow_putObj H2.out _ hK rfl, h4.put (Nat.le_refl _) (by omega)⟩
  case stop => exact fun _ _ _ _ h _ => h.elim

theorem enters27 : ∀ args w, (callFunc 49 args).run Tryd.prog w = .ok (.enter 49 args) w := enters_of Tryd.func49 (by kernel_rfl) rfl

set_option maxHeartbeats 400000 in
theorem Tryd.Collect_calls (ps : List (Nat × Nat × Nat)) (hlen : ps.length ≤ 2000000) (lb : Array Value) (w : World)
    (hseq : Seq stillT Tryd.prog 49 lb (ps.map fun p => #[lineV p]) w) :
    Calls Tryd.prog 33 #[.func (.func 49) #[] lb] w fun e w' => ∃ v, e = .returned v ∧ w'.ownsRow w.heap.size 39 3 v ps.length (lineCells ps) ∧ Below w.heap.size w w' := by
  have H := Lib.hid (Tryd.AppendSeq_calls ps hlen 49 lb enters27 w hseq)
  clear hseq hlen
  go_enter Tryd.func33, Tryd.ntmps33
  go_wp2_with (go_at_call 48; refine H.out.mono ?_; rintro e w' ⟨v, rfl, h1, h2⟩)
  go_ret
  exact ⟨v, rfl, h1, h2⟩

theorem spans_len' (s : ByteArray) : (spans s.data.toList).length ≤ s.size + 1 := by
  have := spans_len s.data.toList 0 0
  simpa [spans] using this
theorem lines_len (s : ByteArray) : (lines s.data.toList).length ≤ s.size + 1 := by
  have h1 := spans_len' s
  have h2 : (lines s.data.toList).length ≤ (spans s.data.toList).length := by simp only [lines, List.length_map]; exact (List.takeWhile_sublist _).length_le
  omega

set_option maxHeartbeats 400000 in
theorem Tryd.Lines_calls (s : ByteArray) (w : World) (hs : s.size ≤ 1000000) :
    Calls Tryd.prog 15 #[.string s] w fun e w' => ∃ v, e = .returned v ∧ w'.ownsRow w.heap.size 39 3 v (lines s.data.toList).length (lineCells (lines s.data.toList)) ∧ Below w.heap.size w w' := by
  have hl := lines_len s
  have H := Lib.hid (Tryd.Collect_calls (lines s.data.toList) (by omega) #[.pointer (some ⟨w.heap.size, 0, none⟩)] (w.alloc (.cells #[.string s] 9))
    (Tryd.lines1_seq w.heap.size s _ hs (by simp) (Boxed.new w 9 _)))
  clear hl
  go_enter Tryd.func15, Tryd.ntmps15
  go_wp2_with (first | (go_at_call 34; refine (Tryd.lines_calls _ _).mono ?_; rintro e w' ⟨rfl, rfl⟩) | (go_at_call 33; refine H.out.mono ?_; rintro e w' ⟨v, rfl, h1, h2⟩))
  go_ret
  refine ⟨v, rfl, ⟨h1.1, ?_⟩, (((Below.refl _ w).alloc (Nat.le_refl _) _).trans (h2.mono (by simp)))⟩
  rcases h1.2 with h | ⟨g, cap, cur, h3, h4, h5⟩
  · exact .inl h
  · exact .inr ⟨g, cap, cur, h3, by simp at h4; omega, h5⟩
#print axioms Tryd.Lines_calls
end Go.Proofs
/- cursor.Blank of this program at a part of a text. Conditions: the part lies in the text. -/
namespace Go.Cur
def blankL (l : List UInt8) : Bool := l.all fun c => c == 32 || c == 9
/-- The bytes from a up to b. -/
def cutL (l : List UInt8) (a b : Nat) : List UInt8 := l.extract a b
theorem blank_decode (s : ByteArray) (pos : Nat) (h : pos < s.size) :
    (((Utf8.decode s pos).1 = 32 ∨ (Utf8.decode s pos).1 = 9) → (s[pos]'h == 32 || s[pos]'h == 9) = true ∧ (Utf8.decode s pos).2 = 1) ∧
    (((Utf8.decode s pos).1 ≠ 32 ∧ (Utf8.decode s pos).1 ≠ 9) → (s[pos]'h == 32 || s[pos]'h == 9) = false) := by
  by_cases ha : (s[pos]'h).toNat < 128
  · rw [decode_ascii s pos h ha]
    constructor
    · rintro (e | e)
      · have : s[pos]'h = 32 := UInt8.toNat_inj.1 e
        simp [this]
      · have : s[pos]'h = 9 := UInt8.toNat_inj.1 e
        simp [this]
    · rintro ⟨e1, e2⟩
      have h1 : s[pos]'h ≠ 32 := fun e => e1 (by rw [e]; rfl)
      have h2 : s[pos]'h ≠ 9 := fun e => e2 (by rw [e]; rfl)
      simp [h1, h2]
  · have hh := decode_high s pos h (by omega)
    refine ⟨fun e => by omega, fun _ => ?_⟩
    have h1 : s[pos]'h ≠ 32 := fun e => ha (by rw [e]; decide)
    have h2 : s[pos]'h ≠ 9 := fun e => ha (by rw [e]; decide)
    simp [h1, h2]
theorem blankL_drop (l : List UInt8) (p : Nat) (c : UInt8) (h : l[p]? = some c) : blankL (l.drop p) = ((c == 32 || c == 9) && blankL (l.drop (p + 1))) := by
  obtain ⟨hp, rfl⟩ := List.getElem?_eq_some_iff.1 h
  rw [List.drop_eq_getElem_cons hp]; rfl
theorem extract_list (s : ByteArray) (a b : Nat) : (s.extract a b).data.toList = cutL s.data.toList a b := by
  rw [ByteArray.data_extract, Array.toList_extract]; rfl
end Go.Cur
namespace Go.Proofs
open Go.RowKit Go.Shelf Go.Cur

set_option maxHeartbeats 400000 in
theorem Tryd.curblank_calls (r : Int) (w : World) :
    Calls Tryd.prog 52 #[.int .i32 r] w fun e w' => e = .returned (.bool (r == 32 || r == 9)) ∧ w = w' := by
  by_cases h1 : r = 32
  · subst h1
    go_enter Tryd.func52, Tryd.ntmps52
    go_wp2
    go_ret
    exact ⟨rfl, rfl⟩
  · have h1' : (r == 32) = false := beq_eq_false_iff_ne.2 h1
    have e : (r == 32 || r == 9) = (r == 9) := by rw [h1', Bool.false_or]
    rw [e]
    clear e h1
    go_enter Tryd.func52, Tryd.ntmps52
    go_wp2
    go_ret
    exact ⟨rfl, rfl⟩

set_option maxRecDepth 100000 in
set_option maxHeartbeats 1000000 in
theorem Tryd.Blank_calls (s : ByteArray) (a b c : Nat) (w : World) (hab : a ≤ b) (hbl : b ≤ s.size) :
    Calls Tryd.prog 35 #[.string s, .agg #[.int .i64 (a : Nat), .int .i64 (b : Nat), .int .i64 (c : Nat)]] w fun e w' => e = .returned (.bool (blankL (cutL s.data.toList a b))) ∧ Below w.heap.size w w' := by
  have g1 : decide ((a : Int) < 0) = false := decide_eq_false (by omega)
  have g2 : decide ((b : Int) < (a : Int)) = false := decide_eq_false (by omega)
  have g3 : decide ((s.size : Int) < (b : Int)) = false := decide_eq_false (by omega)
  have g4 : decide (b < a) = false := decide_eq_false (by omega)
  have g5 : decide (s.size < b) = false := decide_eq_false (by omega)
  have hn := fun (wr : World) (pos : Nat) (ty : TypeId) hk h => Lib.run_next_any_at (P := Tryd.prog) wr (w.heap.size + 1) (s.extract a b) pos ty hk h
  have he := fun (wr : World) (pos : Nat) (ty : TypeId) hk h => Lib.run_next_end_at (P := Tryd.prog) wr (w.heap.size + 1) (s.extract a b) pos ty hk h
  go_enter Tryd.func35, Tryd.ntmps35
  go_wp2
  go_loopw [6] (fun _ wr => ∃ pos : Nat, wr.heap[w.heap.size + 1]? = some (.stringIter (s.extract a b) pos) ∧ pos ≤ (s.extract a b).size ∧ Below w.heap.size w wr ∧ blankL (cutL s.data.toList a b) = blankL ((s.extract a b).data.toList.drop pos))
    (fun _ wr => (s.extract a b).size - wr.iterPos (w.heap.size + 1))
  case atStart =>
    refine ⟨0, ?_, Nat.zero_le _, ((Below.refl _ w).alloc (Nat.le_refl _) _).alloc (by simp) _, by rw [extract_list]; rfl⟩
    have := World.alloc_heap_new (w.alloc (Obj.cells #[Value.int IntKind.i64 (a : Nat), Value.int IntKind.i64 (b : Nat), Value.int IntKind.i64 (c : Nat)] 39)) (.stringIter (s.extract a b) 0)
    rwa [World.size_alloc] at this
  case round =>
    obtain ⟨pos, hit, hpos, hB, hbk⟩ := hrel
    generalize s.extract a b = x at *
    by_cases hlt : pos < x.size
    · have hdec := blank_decode x pos hlt
      have hle := decode_le x pos
      have hn' := fun ty => hn wr pos ty hit hlt
      rw [blankL_drop _ _ _ (list_get x pos hlt)] at hbk
      have hit2 := fun p => Lib.iterAt_heap wr (w.heap.size + 1) x pos p hit
      obtain ⟨r, hr⟩ : ∃ r, r = (Utf8.decode x pos).1 := ⟨_, rfl⟩
      obtain ⟨wd, hw⟩ : ∃ wd, wd = (Utf8.decode x pos).2 := ⟨_, rfl⟩
      rw [← hr] at hdec hle hn'
      rw [← hw] at hdec hn'
      by_cases hb : r = 32 ∨ r = 9
      · obtain ⟨hd1, hd2⟩ := hdec.1 hb
        rw [hd1, Bool.true_and] at hbk
        rw [hd2] at hn'
        have hbb : (((r : Nat) : Int) == 32 || ((r : Nat) : Int) == 9) = true := by
          rcases hb with rfl | rfl <;> rfl
        have hit3 := hit2 (pos + 1)
        have hB2 := Lib.below_iterAt hB (show w.heap.size ≤ w.heap.size + 1 by omega) x (pos + 1)
        have Hb := Lib.hid hbk
        have HB := Lib.hid hbb
        clear hdec hn he hr hw hbk hb hd1 hd2 hit2 hbb
        go_wp2_with (go_at_call 52; refine (Tryd.curblank_calls _ _).mono ?_; rw [HB.out]; rintro e w' ⟨rfl, rfl⟩)
        go_roundw
        case rel => exact ⟨pos + 1, hit3, by omega, hB2, Hb.out⟩
        case measure => simp [World.iterPos, hit, hit3]; omega
      · have hd1 := hdec.2 ⟨fun e => hb (.inl e), fun e => hb (.inr e)⟩
        rw [hd1, Bool.false_and] at hbk
        have hbb : (((r : Nat) : Int) == 32 || ((r : Nat) : Int) == 9) = false := by
          rw [Bool.or_eq_false_iff]; constructor <;> (rw [beq_eq_false_iff_ne]; omega)
        have hB2 := fun p => Lib.below_iterAt hB (show w.heap.size ≤ w.heap.size + 1 by omega) x p
        have Hb := Lib.hid hbk
        have HB := Lib.hid hbb
        have HB2 := Lib.hid hB2
        clear hdec hn he hr hw hbk hb hd1 hbb hit2 hB2
        go_wp2_with (go_at_call 52; refine (Tryd.curblank_calls _ _).mono ?_; rw [HB.out]; rintro e w' ⟨rfl, rfl⟩)
        go_ret
        rw [Hb.out]
        exact ⟨rfl, HB2.out _⟩
    · have hpe : pos = x.data.toList.length := by simp; omega
      have he' := fun ty => he wr pos ty hit hlt
      rw [hpe, List.drop_length] at hbk
      have Hb := Lib.hid hbk
      clear hn he hbk hpe
      go_wp2
      go_ret
      rw [Hb.out]
      exact ⟨rfl, hB⟩
#print axioms Tryd.Blank_calls
end Go.Proofs
/- cursor.Rows of this program: the lines that are not blank. Conditions: a text of at most a million bytes. -/
namespace Go.Cur
def bare (l : List UInt8) (p : Nat × Nat × Nat) : Bool := !blankL (cutL l p.1 p.2.1)
def rowsOf (l : List UInt8) : List (Nat × Nat × Nat) := (lines l).filter (bare l)
theorem lines_get {l : List UInt8} {k a b c : Nat} (h : (lines l)[k]? = some (a, b, c)) : a ≤ b ∧ b ≤ l.length ∧ b ≤ c ∧ c ≤ l.length + 1 := by
  simp only [lines, List.getElem?_map, Option.map_eq_some_iff] at h
  obtain ⟨⟨x, y⟩, h1, h2⟩ := h
  have h3 : (x, y) ∈ spans l := (List.takeWhile_sublist _).subset (List.mem_of_getElem? h1)
  have h4 := spans_mem (Nat.le_refl 0) (x, y) h3
  simp only [lineAt] at h2
  simp only at h4
  split at h2
  · simp only [Prod.mk.injEq] at h2
    omega
  · split at h2 <;> (simp only [Prod.mk.injEq] at h2; omega)
theorem rows_step {l : List UInt8} {k : Nat} {p : Nat × Nat × Nat} (h : (lines l)[k]? = some p) : ((lines l).take (k + 1)).filter (bare l) = ((lines l).take k).filter (bare l) ++ if bare l p then [p] else [] := by
  obtain ⟨hk, rfl⟩ := List.getElem?_eq_some_iff.1 h
  rw [List.take_succ_eq_append_getElem hk, List.filter_append]
  cases hb : bare l (lines l)[k] <;> simp [hb]
end Go.Cur
namespace Go
open Go.RowKit
theorem ownsRow_own {X Y : World} {base : Nat} {e : TypeId} {size : Nat} {v : Value} {k : Nat} {xs : List Value} (h2 : X.ownsRow base e size v k xs) {row : Option Nat} (hg : X.grownBy Y row) {B' : Nat} (hr : ∀ r, row = some r → B' ≤ r ∧ ∃ o : Obj, X.heap[r]? = some o ∧ o.isCells = false) : Y.ownsRow base e size v k xs := by
  refine h2.kept hg ?_
  rcases h2.2 with ⟨rfl, _⟩ | ⟨g, cap, cur, rfl, _, hgb, _⟩
  · exact .inl rfl
  · refine .inr fun e' => ?_
    obtain ⟨_, o, ho, hc⟩ := hr g (by simpa [Value.ownBlock] using e'.symm)
    rw [hgb] at ho; cases ho; cases hc
end Go
namespace Go.Proofs
open Go.RowKit Go.Shelf Go.Cur
attribute [local go_sem] Oper.semAt_some

set_option maxRecDepth 100000 in
set_option maxHeartbeats 1000000 in
theorem Tryd.Rows_calls (s : ByteArray) (w : World) (hs : s.size ≤ 1000000) :
    Calls Tryd.prog 16 #[.string s] w fun e w' => ∃ v, e = .returned v ∧ w'.ownsRow w.heap.size 39 3 v (rowsOf s.data.toList).length (lineCells (rowsOf s.data.toList)) ∧ Below w.heap.size w w' := by
  obtain ⟨i0, hi, hz0, hz1, hz2⟩ := info_parts Tryd.info39
  have hfn : ∀ f, Fence.wide.fn f := fun _ => trivial
  have hdp : Fence.wide.depth = none := rfl
  refine (callsIn_wide (n := 0)).1 (callsIn_of_wp_marks Tryd.func16 rfl trivial ?_ rfl)
  simp only [Tryd.ntmps16, List.size_toArray, List.length_cons, List.length_nil, Nat.reduceAdd, Nat.reduceSub, Array.replicate_succ, Array.replicate_zero, List.push_toArray, List.append_toArray, List.nil_append, List.cons_append]
  gi_wp2_with (gi_at_call 34; refine (callsIn_wide.2 (Tryd.lines_calls _ _)).mono ?_; rintro e w' ⟨rfl, rfl⟩)
  obtain ⟨V, hV⟩ : ∃ V, V = ((w.alloc (.cells #[.string s] 9)).alloc (.cells #[.slice none 0 0] 36)).alloc (.cells #[.string s] 9) := ⟨_, rfl⟩
  have hVs : V.heap.size = w.heap.size + 1 + 1 + 1 := by rw [hV]; simp
  have b0 : Boxed V w.heap.size 9 (.string s) := by rw [hV]; exact ((Boxed.new w 9 _).alloc _).alloc _
  have b1 : Boxed V (w.heap.size + 1) 36 (.slice none 0 0) := by rw [hV]; exact (Boxed.at 36 _ (by simp)).alloc _
  have b2 : Boxed V (w.heap.size + 1 + 1) 9 (.string s) := by rw [hV]; exact Boxed.at 9 _ (by simp)
  have hB : Below w.heap.size w V := by rw [hV]; exact (((Below.refl _ w).alloc (Nat.le_refl _) _).alloc (by simp) _).alloc (by simp; omega) _
  rw [← hV]
  clear hV
  refine range_seq (gf := 49) (lb := #[.pointer (some ⟨w.heap.size + 1 + 1, 0, none⟩)]) rfl enters27 (Tryd.lines1_seq _ s V hs (by omega) b2) (Below.refl _ _) (fun k x h => by obtain ⟨p, _, rfl⟩ := map_get h; rfl)
    (fun k W => ∃ v, Boxed W w.heap.size 9 (.string s) ∧ Boxed W (w.heap.size + 1) 36 v ∧ W.ownsRow w.heap.size 39 3 v (((lines s.data.toList).take k).filter (bare s.data.toList)).length (lineCells (((lines s.data.toList).take k).filter (bare s.data.toList))) ∧ Below w.heap.size w W)
    (fun _ _ => False)
    (fun k X Y row h hg hr => by
      obtain ⟨v, h0, h1, h2, h4⟩ := h
      exact ⟨v, h0.own hg hr, h1.own hg hr, ownsRow_own h2 hg hr, h4.own (Nat.le_refl _) hg (by omega) hr⟩)
    (fun _ _ _ _ _ h _ _ => h.elim)
    ⟨_, b0, b1, by simpa [lineCells] using World.ownsRow_nil V w.heap.size 39 3, hB⟩
    (fun x a' W => ∃ a b c Bx, x = #[.agg #[.int .i64 (a : Nat), .int .i64 (b : Nat), .int .i64 (c : Nat)]] ∧ w.heap.size + 1 < Bx ∧ W.heap[Bx]? = some (.cells #[.int .i64 (a : Nat), .int .i64 (b : Nat), .int .i64 (c : Nat)] 39 (0, 0)) ∧
      a' = { tmps := #[.string s, .pointer (some ⟨w.heap.size, 0, none⟩), .slice none 0 0, .pointer (some ⟨w.heap.size + 1, 0, none⟩), .pointer (some ⟨Bx, 0, none⟩), .string s, .func (.func 49) #[] #[.pointer (some ⟨w.heap.size + 1 + 1, 0, none⟩)], x[0]!, undef, undef, undef, undef, undef, undef, undef, undef, undef], defers := [] })
    (fun x a' _ X Y row h hg hr => by
      obtain ⟨a, b, c, Bx, rfl, h1, h2, rfl⟩ := h
      refine ⟨a, b, c, Bx, rfl, h1, (hg.block Bx (Array.getElem?_eq_some_iff.1 h2).1 (fun e => ?_)).trans h2, rfl⟩
      obtain ⟨_, o, ho, hc⟩ := hr Bx e.symm
      rw [h2] at ho; cases ho; cases hc) ?assign ?body ?done ?stop
  case assign =>
    intro l k x W K hx hi hK
    obtain ⟨⟨a, b, c⟩, hp, rfl⟩ := map_get hx
    obtain ⟨v, h0, h1, h2, h4⟩ := hi
    clear hx
    simp only [lineV]
    gi_wp2
    exact hK _ _ ((RF.refl _).alloc _) ⟨v, h0.alloc _, h1.alloc _, h2.alloc _, h4.alloc h4.size _⟩ ⟨a, b, c, W.heap.size, rfl, h1.lt, World.alloc_heap_new W _, rfl⟩
  case body =>
    rintro l k x a' W hx0 ⟨v, h0, h1, h2, h4⟩ ⟨a, b, c, Bx, rfl, hBx, hbx, rfl⟩
    obtain ⟨⟨a1, b1, c1⟩, hp, he⟩ := map_get hx0
    have he' : a = a1 ∧ b = b1 ∧ c = c1 := by simpa [lineV, Int.natCast_inj] using he
    obtain ⟨rfl, rfl, rfl⟩ := he'
    clear he hx0
    have hcs := h0.cell
    have hcv := h1.cell
    have x0 : W.cell? ⟨Bx, 0, none⟩ = some (.int .i64 (a : Nat)) := by simp [World.cell?, hbx]
    have x1 : W.cell? ⟨Bx, 1, none⟩ = some (.int .i64 (b : Nat)) := by simp [World.cell?, hbx]
    have x2 : W.cell? ⟨Bx, 2, none⟩ = some (.int .i64 (c : Nat)) := by simp [World.cell?, hbx]
    obtain ⟨hab, hbl, _, _⟩ := lines_get hp
    have hbl' : b ≤ s.size := by simpa using hbl
    have hbxl : Bx < W.heap.size := (Array.getElem?_eq_some_iff.1 hbx).1
    have hsz : w.heap.size ≤ W.heap.size := h4.size
    have hstep := rows_step hp
    have hln := lines_len s
    have hlt : (((lines s.data.toList).take k).filter (bare s.data.toList)).length ≤ s.size + 1 := by
      have h1 := List.length_filter_le (bare s.data.toList) ((lines s.data.toList).take k)
      have h2 := List.length_take_le k (lines s.data.toList)
      have h3 : ((lines s.data.toList).take k).length ≤ (lines s.data.toList).length := by rw [List.length_take]; omega
      omega
    have hcall := fun w1 : World => Tryd.Blank_calls s a b c w1 hab hbl'
    cases hbk : blankL (cutL s.data.toList a b) with
    | true =>
      rw [hbk] at hcall
      have hbare : bare s.data.toList (a, b, c) = false := by simp [bare, hbk]
      rw [if_neg (by rw [hbare]; simp), List.append_nil] at hstep
      have HC := Lib.hid hcall
      have HS := Lib.hid hstep
      clear hcall hstep hbare hbk hp hlt hln hab hbl
      simp only [List.getElem!_toArray, List.getElem!_cons_zero]
      gi_wp2_with (gi_at_call 35; refine (CallsIn.inRound l (callsIn_wide.2 (HC.out _))).mono ?_; rintro e w1 ⟨rfl, hb1⟩)
      exact ⟨(RF.refl _).below hb1 (Nat.le_refl _), v, h0.below hb1 h0.lt, h1.below hb1 h1.lt, by rw [HS.out]; exact ownsRow_below h2 hb1 (Nat.le_refl _), h4.trans (hb1.mono hsz)⟩
    | false =>
      rw [hbk] at hcall
      have hbare : bare s.data.toList (a, b, c) = true := by simp [bare, hbk]
      rw [if_pos hbare] at hstep
      have HC := Lib.hid hcall
      have HS := Lib.hid hstep
      clear hcall hstep hbare hbk hp hln hab hbl
      generalize ((lines s.data.toList).take k).filter (bare s.data.toList) = q at *
      have hml : q.length + 1 ≤ maxLen := by unfold maxLen; omega
      have hml2 : (q.length + 1) * 24 ≤ 140737488355328 := by omega
      clear hlt
      simp only [List.getElem!_toArray, List.getElem!_cons_zero]
      gi_wp2_with (first | (gi_at_call 35; refine (CallsIn.inRound l (callsIn_wide.2 (HC.out _))).mono ?_; rintro e w1 ⟨rfl, hb1⟩; have y1 := h1.below hb1 h1.lt; have y2 := ownsRow_below h2 hb1 (Nat.le_refl _); have y4 := h4.trans (hb1.mono hsz); have ycv := y1.cell; have z0 := (hb1.cell (p := ⟨Bx, 0, none⟩) hbxl).trans x0; have z1 := (hb1.cell (p := ⟨Bx, 1, none⟩) hbxl).trans x1; have z2 := (hb1.cell (p := ⟨Bx, 2, none⟩) hbxl).trans x2) | (gi_at_builtin; refine wpListIn_append_own _ rfl _ _ 36 rfl w.heap.size 39 i0 (.agg #[.int .i64 0, .int .i64 0, .int .i64 0]) 3 24 Tryd.underlying36 hi hz0 hz1 hz2 rfl (by decide) _ _ _ rfl (y2.alloc _) ⟨w1.heap.size, 0, none⟩ 1 1 [.int .i64 (a : Nat), .int .i64 (b : Nat), .int .i64 (c : Nat)] rfl rfl (curcells_new w1 #[.int .i64 (a : Nat), .int .i64 (b : Nat), .int .i64 (c : Nat)] 39) (by simp [Value.oneCell']) hml hml2 (by have := y4.size; simp; omega) ?_; intro v' w2 hown' hgrow _; obtain ⟨g', cap', rfl⟩ := ownsRow_succ hown'; obtain ⟨hv1, hv2, hr2, hk2, hb2⟩ := y1.appended (by decide) y2 y4.size (by omega) hown' hgrow; have hrf := RF.appended (T := stillT) (B0 := V.heap.size) (v' := .slice (some ⟨g', 0, none⟩) (q.length + 1) cap') y2 rfl (fun _ => rfl) hgrow hv1; have hc1 := hv1.cell; have hf1 := hv1.frozen))
      have hrf2 := ((RF.refl W).below hb1 (Nat.le_refl _)).trans hrf
      exact ⟨hrf2, _, hrf2.boxed h0 rfl, hv2, by rw [HS.out, lineCells_snoc, List.length_append]; exact hr2, y4.trans hb2⟩
  case done =>
    rintro D W hD ⟨v, h0, h1, h2, h4⟩ hK
    have hcv := h1.cell
    rw [linesV, List.length_map, List.take_length] at h2
    have H2 := Lib.hid h2
    clear h2
    gi_wp2
    refine ⟨by simp, .inl ⟨_, _, rfl, run_takeDeferred hK, ?_⟩⟩
    exact ⟨_, results_tmp rfl _ _ _, v, rfl, ownsRow_putObj H2.out _ hK rfl, h4.put (Nat.le_refl _) (by omega)⟩
  case stop => exact fun _ _ _ _ h _ => h.elim
#print axioms Tryd.Rows_calls
end Go.Proofs
/- What entrepotlaw01.shown answers: true. No conditions. -/
namespace Go.Proofs
open Go.RowKit Go.Shelf Go.Cur

/-- v is a slice that holds the lines ps in W. -/
def HasLines (W : World) (v : Value) (ps : List (Nat × Nat × Nat)) : Prop :=
  ∃ (ao : Option Addr) (cap : Nat), v = .slice ao ps.length cap ∧ ∀ (i a b c : Nat), ps[i]? = some (a, b, c) → ∃ g, ao = some ⟨g, 0, none⟩ ∧ g < W.heap.size ∧
    W.cell? ⟨g, i * 3, none⟩ = some (.int .i64 (a : Nat)) ∧ W.cell? ⟨g, i * 3 + 1, none⟩ = some (.int .i64 (b : Nat)) ∧ W.cell? ⟨g, i * 3 + 2, none⟩ = some (.int .i64 (c : Nat))

theorem lineCells_get : ∀ {ps : List (Nat × Nat × Nat)} {i a b c : Nat}, ps[i]? = some (a, b, c) →
    (lineCells ps)[i * 3]? = some (.int .i64 (a : Nat)) ∧ (lineCells ps)[i * 3 + 1]? = some (.int .i64 (b : Nat)) ∧ (lineCells ps)[i * 3 + 2]? = some (.int .i64 (c : Nat))
  | [], i, a, b, c, h => by simp at h
  | p :: ps, 0, a, b, c, h => by
    have e : p = (a, b, c) := by simpa using h
    subst e
    exact ⟨rfl, rfl, rfl⟩
  | p :: ps, i + 1, a, b, c, h => by
    have h' : ps[i]? = some (a, b, c) := by simpa using h
    have ih := lineCells_get h'
    have e : ∀ j, (lineCells (p :: ps))[(i + 1) * 3 + j]? = (lineCells ps)[i * 3 + j]? := fun j => by
      rw [show (i + 1) * 3 + j = (i * 3 + j) + 1 + 1 + 1 from by omega]; rfl
    exact ⟨(e 0).trans ih.1, (e 1).trans ih.2.1, (e 2).trans ih.2.2⟩

theorem hasLines_of_owns {W : World} {base : Nat} {e : TypeId} {v : Value} {ps : List (Nat × Nat × Nat)} (h : W.ownsRow base e 3 v ps.length (lineCells ps)) : HasLines W v ps := by
  rcases h.2 with ⟨rfl, h0⟩ | ⟨g, cap, cur, rfl, h1, h2, _⟩
  · refine ⟨none, 0, by rw [h0], fun i a b c hi => ?_⟩
    have := (List.getElem?_eq_some_iff.1 hi).1
    omega
  · refine ⟨_, cap, rfl, fun i a b c hi => ⟨g, rfl, (Array.getElem?_eq_some_iff.1 h2).1, ?_⟩⟩
    have hc := World.ownsRow.cells h (g := g) rfl
    have hl := lineCells_get hi
    have e : ∀ j, ((⟨g, 0, none⟩ : Addr).add j) = ⟨g, j, none⟩ := fun j => by
      unfold Addr.add
      split
      · rename_i h0; rw [h0]
      · simp
    have h3 := hc _ _ hl.1
    have h4 := hc _ _ hl.2.1
    have h5 := hc _ _ hl.2.2
    rw [e] at h3 h4 h5
    exact ⟨h3, h4, h5⟩

theorem HasLines.below {W W' : World} {v : Value} {ps : List (Nat × Nat × Nat)} (h : HasLines W v ps) {n₀ : Nat} (hb : Below n₀ W W') (hn : W.heap.size ≤ n₀) : HasLines W' v ps := by
  obtain ⟨ao, cap, rfl, h⟩ := h
  refine ⟨ao, cap, rfl, fun i a b c hi => ?_⟩
  obtain ⟨g, h1, h2, h3, h4, h5⟩ := h i a b c hi
  have := hb.size
  exact ⟨g, h1, by omega, (hb.cell (p := ⟨g, _, none⟩) (by simp; omega)).trans h3, (hb.cell (p := ⟨g, _, none⟩) (by simp; omega)).trans h4, (hb.cell (p := ⟨g, _, none⟩) (by simp; omega)).trans h5⟩

def sA : ByteArray := ⟨#[97, 98, 13, 10, 99]⟩
def sB : ByteArray := ⟨#[32, 10, 9, 10, 120]⟩

theorem Tryd.LinesA (w : World) : Calls Tryd.prog 15 #[.string ⟨#[97, 98, 13, 10, 99]⟩] w fun e w' => ∃ g cap, e = .returned (.slice (some ⟨g, 0, none⟩) 2 cap) ∧ g < w'.heap.size ∧ Below w.heap.size w w' ∧
    w'.cell? ⟨g, 0, none⟩ = some (.int .i64 0) ∧ w'.cell? ⟨g, 1, none⟩ = some (.int .i64 2) ∧ w'.cell? ⟨g, 2, none⟩ = some (.int .i64 4) ∧ w'.cell? ⟨g, 3, none⟩ = some (.int .i64 4) ∧ w'.cell? ⟨g, 4, none⟩ = some (.int .i64 5) ∧ w'.cell? ⟨g, 5, none⟩ = some (.int .i64 5) := by
  refine (Tryd.Lines_calls sA w (by decide)).mono ?_
  rintro e w' ⟨v, rfl, h1, h2⟩
  have hl : lines sA.data.toList = [(0, 2, 4), (4, 5, 5)] := by decide
  rw [hl] at h1
  obtain ⟨ao, cap, rfl, h3⟩ := hasLines_of_owns h1
  obtain ⟨g, rfl, h4, c0, c1, c2⟩ := h3 0 0 2 4 rfl
  obtain ⟨g', h5, _, c3, c4, c5⟩ := h3 1 4 5 5 rfl
  cases h5
  exact ⟨g, cap, rfl, h4, h2, c0, c1, c2, c3, c4, c5⟩

theorem Tryd.RowsB (w : World) : Calls Tryd.prog 16 #[.string ⟨#[32, 10, 9, 10, 120]⟩] w fun e w' => ∃ ao cap, e = .returned (.slice ao 1 cap) ∧ Below w.heap.size w w' := by
  refine (Tryd.Rows_calls sB w (by decide)).mono ?_
  rintro e w' ⟨v, rfl, h1, h2⟩
  have hl : rowsOf sB.data.toList = [(4, 5, 5)] := by decide
  rw [hl] at h1
  obtain ⟨ao, cap, rfl, h3⟩ := hasLines_of_owns h1
  exact ⟨ao, cap, rfl, h2⟩


end Go.Proofs
/- The document's own Lines of this program, as a contract. Conditions: a text of at most a million bytes. -/
namespace Go.Cur
theorem takeWhile_all {α : Type} {p : α → Bool} {l r : List α} (h : ∀ x ∈ l, p x = true) : (l ++ r).takeWhile p = l ++ r.takeWhile p := by
  induction l with
  | nil => rfl
  | cons x l ih =>
    rw [List.cons_append, List.takeWhile_cons, if_pos (h x (by simp)), ih (fun y hy => h y (by simp [hy]))]; rfl
theorem lines_split {l : List UInt8} {d : List (Nat × Nat)} {a : Nat} (h : spans l = d ++ [(a, l.length)]) (hd : ∀ p ∈ d, p.1 < l.length) : lines l = d.map (lineAt l) ++ if a = l.length then [] else [(a, l.length, l.length)] := by
  unfold lines
  rw [h, takeWhile_all (fun p hp => by have := hd p hp; simp; omega), List.map_append]
  congr 1
  by_cases ha : a = l.length
  · simp [ha]
  · have hb : (a != l.length) = true := by rw [bne_iff_ne]; exact ha
    simp [List.takeWhile, ha, hb, lineAt]
theorem split_len {l : List UInt8} {d r : List (Nat × Nat)} (h : spans l = d ++ r) : d.length ≤ l.length + 1 := by
  have h1 := spans_len l 0 0
  have h2 : (spans l).length = d.length + r.length := by rw [h, List.length_append]
  simp only [spans] at h2
  omega
end Go.Cur
namespace Go.Proofs
open Go.RowKit Go.Shelf Go.Cur

theorem owns_empty (w : World) (e : TypeId) : (w.alloc (.cells #[] e)).ownsRow w.heap.size e 3 (.slice (some ⟨w.heap.size, 0, none⟩) 0 0) 0 [] :=
  ⟨rfl, .inr ⟨w.heap.size, 0, #[], rfl, Nat.le_refl _, World.alloc_heap_new w _, Nat.le_refl _, Nat.zero_le _, rfl, rfl⟩⟩

theorem grown_below {n₀ : Nat} {w wr w1 : World} {tmp : Obj} {v : Value} {e : TypeId} {size k : Nat} {xs : List Value} (hB : Below n₀ w wr) (hn : n₀ ≤ wr.heap.size) (hown : wr.ownsRow n₀ e size v k xs) (hgrow : (wr.alloc tmp).grownBy w1 v.ownBlock) : Below n₀ w w1 :=
  (hB.alloc hn tmp).grown hgrow (by simp; omega) (fun j e => (hown.lt j e).1)

end Go.Proofs
/- its, and the document's own Same, Blank and Rows of this program, as contracts. Conditions: lists of at most two million lines; a text of at most a million bytes. -/
namespace Go.Proofs
open Go.RowKit Go.Shelf Go.Cur

theorem HasLines.at {W : World} {g : Nat} {n cap : Nat} {ps : List (Nat × Nat × Nat)} (h : HasLines W (.slice (some ⟨g, 0, none⟩) n cap) ps) {i a b c : Nat} (hi : ps[i]? = some (a, b, c)) :
    g < W.heap.size ∧ W.cell? ⟨g, i * 3, none⟩ = some (.int .i64 (a : Nat)) ∧ W.cell? ⟨g, i * 3 + 1, none⟩ = some (.int .i64 (b : Nat)) ∧ W.cell? ⟨g, i * 3 + 2, none⟩ = some (.int .i64 (c : Nat)) := by
  obtain ⟨ao, cap', e, h⟩ := h
  obtain ⟨g', h1, h2, h3, h4, h5⟩ := h i a b c hi
  cases e
  cases h1
  exact ⟨h2, h3, h4, h5⟩
theorem HasLines.split {W : World} {v : Value} {ps : List (Nat × Nat × Nat)} (h : HasLines W v ps) : (ps = [] ∧ ∃ ao cap, v = .slice ao 0 cap) ∨ (0 < ps.length ∧ ∃ g cap, v = .slice (some ⟨g, 0, none⟩) ps.length cap ∧ g < W.heap.size) := by
  obtain ⟨ao, cap, rfl, h⟩ := h
  cases ps with
  | nil => exact .inl ⟨rfl, ao, cap, rfl⟩
  | cons p ps =>
    obtain ⟨a, b, c⟩ := p
    obtain ⟨g, rfl, h1, _⟩ := h 0 a b c rfl
    exact .inr ⟨by simp, g, cap, rfl, h1⟩


end Go.Proofs
/- The document's own Blank and Rows of this program, as contracts. Conditions: a text of at most a million bytes; a part that lies in it. -/
namespace Go.Cur
theorem cutL_step {l : List UInt8} {k b : Nat} {c : UInt8} (hk : k < b) (hc : l[k]? = some c) : blankL (cutL l k b) = ((c == 32 || c == 9) && blankL (cutL l (k + 1) b)) := by
  obtain ⟨hl, rfl⟩ := List.getElem?_eq_some_iff.1 hc
  unfold cutL
  rw [List.extract_eq_take_drop, List.extract_eq_take_drop, List.drop_eq_getElem_cons hl, show b - k = (b - (k + 1)) + 1 from by omega, List.take_succ_cons]
  rfl
theorem cutL_end (l : List UInt8) (b : Nat) : blankL (cutL l b b) = true := by
  unfold cutL
  rw [List.extract_eq_take_drop, Nat.sub_self, List.take_zero]; rfl
end Go.Cur
namespace Go.Proofs
open Go.RowKit Go.Shelf Go.Cur


theorem ownsRow_base {w : World} {base base' : Nat} {e : TypeId} {size : Nat} {v : Value} {k : Nat} {xs : List Value} (h : w.ownsRow base e size v k xs) (hb : base' ≤ base) : w.ownsRow base' e size v k xs := by
  refine ⟨h.1, h.2.imp id ?_⟩
  rintro ⟨g, cap, cur, h1, h2, h3⟩
  exact ⟨g, cap, cur, h1, Nat.le_trans hb h2, h3⟩

end Go.Proofs
