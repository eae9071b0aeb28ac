/- The iterator cursor.spans of this program: it tells the parts of a text that line feeds part. Conditions: a text that a string can be. -/
import Derived.Test.YtgapefkoemofcaaDoorSeq
import Derived.Test.YtgapefkoemofcaaDoorPlain
import Derived.Test.YtgapefkoemofcaaDoorProg
import Derived.Shelf.Abstract
import Derived.Shelf.RegionOpen
import Derived.WalkKit
import Derived.OwnWalkIn
import Derived.TacticsInMore
import Derived.LoopNIn
import Derived.LoopIn
import Derived.Lib.OthersKept
import Derived.Lib.Hide
namespace Go.Proofs
open Go.RowKit Go.Shelf Go.Cur

attribute [local go_sem] Oper.semAt_some

/-- The types of the cells that no round of this program writes: a string's box, the box of a yield. -/
def stillT (t : TypeId) : Bool := t == 9

def spanV (p : Nat × Nat) : Array Value := #[.int .i64 (p.1 : Int), .int .i64 (p.2 : Int)]
def spansV (s : ByteArray) : List (Array Value) := (spans s.data.toList).map spanV

theorem Tryd.spans_calls (s : ByteArray) (w : World) :
    Calls Tryd.prog 37 #[.string s] w fun e w' => e = .returned (.func (.func 43) #[] #[.pointer (some ⟨w.heap.size, 0, none⟩)]) ∧ w' = w.alloc (.cells #[.string s] 9) := by
  go_enter Tryd.func37, Tryd.ntmps37
  go_wp2
  go_ret
  exact ⟨rfl, rfl⟩

set_option maxRecDepth 100000 in
set_option maxHeartbeats 1000000 in
theorem Tryd.spans1_seq (Bs : Nat) (s : ByteArray) (w : World) (hs : s.size ≤ maxLen) (hB : Bs < w.heap.size) (hbox : Boxed w Bs 9 (.string s)) :
    Seq stillT Tryd.prog 43 #[.pointer (some ⟨Bs, 0, none⟩)] (spansV s) w := by
  intro l J Jx W hW hJ hJx hY h0
  unfold maxLen at hs
  have hbW : Boxed W Bs 9 (.string s) := (hW.block Bs hB).trans hbox
  have hBW : Bs < W.heap.size := hbW.lt
  have hcW := hbW.cell
  have hn := fun (wr : World) (pos : Nat) (ty : TypeId) hk h => Lib.run_next_any_at (P := Tryd.prog) wr W.heap.size s pos ty hk h
  have he := fun (wr : World) (pos : Nat) (ty : TypeId) hk h => Lib.run_next_end_at (P := Tryd.prog) wr W.heap.size s pos ty hk h
  refine (callsIn_wide (n := 0)).1 (callsIn_of_wp Tryd.func43 rfl trivial ?_ rfl)
  simp only [Tryd.ntmps43, List.size_toArray, List.length_cons, List.length_nil, Nat.reduceAdd, Nat.reduceSub, Array.replicate_succ, Array.replicate_zero, List.push_toArray, List.append_toArray, List.nil_append, List.cons_append]
  gi_wp2
  gi_loopw [3] (fun v wr => ∃ (pos a k : Nat), v = .int .i64 (a : Int) ∧ wr.heap[W.heap.size]? = some (.stringIter s pos) ∧ Boxed wr Bs 9 (.string s) ∧ pos ≤ s.size ∧ a ≤ pos ∧ (spans s.data.toList).drop k = spansFrom (s.data.toList.drop pos) pos a ∧ J k wr)
    (fun v wr => s.size - wr.iterPos W.heap.size)
  case atStart =>
    exact ⟨0, 0, 0, rfl, World.alloc_heap_new W _, hbW.alloc _, Nat.zero_le _, Nat.le_refl _, by simp [spans], hJ.alloc _ h0⟩
  case round =>
    obtain ⟨pos, a, k, rfl, hit, hbox1, hpos, ha, hdrop, hj⟩ := hrel
    have hcell := hbox1.cell
    by_cases hlt : pos < s.size
    · by_cases hb : s[pos]'hlt = 10
      · -- a line feed
        have hn' := fun ty => hn wr pos ty hit hlt
        rw [decode_feed s pos hlt hb] at hn'
        have hg := list_get s pos hlt
        rw [hb] at hg
        rw [spans_feed _ _ _ hg] at hdrop
        obtain ⟨hx, hdrop'⟩ := drop_step hdrop
        have hx' : (spansV s)[k]? = some (spanV (a, pos)) := by simp [spansV, hx]
        have hjt : J k (wr.iterAt W.heap.size s (pos + 1)) := hJ k wr _ (some W.heap.size) hj (grownBy_putObj' wr W.heap.size _) (fun r e => by cases e; exact ⟨Nat.le_refl _, _, hit, rfl⟩)
        have hit2 := Lib.iterAt_heap wr W.heap.size s pos (pos + 1) hit
        have hbox2 : Boxed (wr.iterAt W.heap.size s (pos + 1)) Bs 9 (.string s) := hbox1.kept (grownBy_putObj' wr W.heap.size _) (fun e => by cases e; omega)
        obtain ⟨fn, tmps, assign, body, hy, hR⟩ := hY k _ _ hx' hjt
        have Hx := Lib.hid hdrop'
        clear hn he hY hb hg hdrop hx hx' hdrop' hJx
        simp only [spanV] at hy
        gi_wp2
        refine ⟨rfl, hR.mono ?_⟩
        rintro e W3 ⟨hrf, (⟨rfl, hJ3⟩ | ⟨rfl, hJx3⟩)⟩
        · have hit3 := hrf.other _ _ (Nat.le_refl _) hit2 rfl
          have hbox3 := hrf.boxed hbox2 rfl
          gi_wp2
          go_roundw
          case rel => exact ⟨pos + 1, pos + 1, k + 1, by go_num, hit3, hbox3, by omega, by omega, Hx.out, hJ3⟩
          case measure => simp [World.iterPos, hit, hit3]; omega
        · gi_wp2
          refine bodyPost_ret (results_none rfl _ _ _) rfl ?_
          exact ⟨⟨_, rfl⟩, .inr hJx3⟩
      · -- another sign
        obtain ⟨h1, h2, h3, h4⟩ := decode_sign s pos hlt hb
        have hle := decode_le s pos
        have hn' := fun ty => hn wr pos ty hit hlt
        obtain ⟨r, hr⟩ : ∃ r, r = (Utf8.decode s pos).1 := ⟨_, rfl⟩
        obtain ⟨wd, hw⟩ : ∃ wd, wd = (Utf8.decode s pos).2 := ⟨_, rfl⟩
        rw [← hr] at h1 hle hn'
        rw [← hw] at h2 h3 h4 hn'
        clear hr hw
        have hne : (((r : Nat) : Int) != 10) = true := by rw [bne_iff_ne]; omega
        have hdrop' : (spans s.data.toList).drop k = spansFrom (s.data.toList.drop (pos + wd)) (pos + wd) a := by
          rw [hdrop]
          refine spans_sign _ _ _ _ (by simpa using h3) fun j h5 h6 => ?_
          have hj : j < s.size := by omega
          rw [list_get s j hj]
          have := h4 j h5 h6
          rw [get_of s j hj] at this
          intro e
          exact this (by injection e)
        have hjt : J k (wr.iterAt W.heap.size s (pos + wd)) := hJ k wr _ (some W.heap.size) hj (grownBy_putObj' wr W.heap.size _) (fun r e => by cases e; exact ⟨Nat.le_refl _, _, hit, rfl⟩)
        have hit2 := Lib.iterAt_heap wr W.heap.size s pos (pos + wd) hit
        have hbox2 : Boxed (wr.iterAt W.heap.size s (pos + wd)) Bs 9 (.string s) := hbox1.kept (grownBy_putObj' wr W.heap.size _) (fun e => by cases e; omega)
        have Hx := Lib.hid hdrop'
        clear hn he hY hb hdrop hdrop' hJx h4 h1
        gi_wp2
        go_roundw
        case rel => exact ⟨pos + wd, a, k, rfl, hit2, hbox2, h3, by omega, Hx.out, hjt⟩
        case measure => simp [World.iterPos, hit, hit2]; omega
    · -- the end
      have hpe : pos = s.size := by omega
      have he' := fun ty => he wr pos ty hit hlt
      have hl : s.size = s.data.toList.length := by simp
      rw [hpe, hl, spans_end, ← hl] at hdrop
      obtain ⟨hx, _⟩ := drop_step hdrop
      have hlen := drop_one hdrop
      have hx' : (spansV s)[k]? = some (spanV (a, s.size)) := by simp [spansV, hx]
      obtain ⟨fn, tmps, assign, body, hy, hR⟩ := hY k _ _ hx' hj
      have hl0 : (spansV s).length = k + 1 := by simp [spansV, hlen]
      have Hl := Lib.hid hl0
      clear hn he hY hdrop hx hx' hlen hl hl0 hJx hpe
      simp only [spanV] at hy
      gi_wp2
      refine ⟨rfl, hR.mono ?_⟩
      rintro e W3 ⟨hrf, (⟨rfl, hJ3⟩ | ⟨rfl, hJx3⟩)⟩
      · gi_wp2
        go_end0
        rw [Hl.out]
        exact ⟨⟨_, rfl⟩, .inl hJ3⟩
      · gi_wp2
        go_end0
        exact ⟨⟨_, rfl⟩, .inr hJx3⟩
#print axioms Tryd.spans1_seq
end Go.Proofs
