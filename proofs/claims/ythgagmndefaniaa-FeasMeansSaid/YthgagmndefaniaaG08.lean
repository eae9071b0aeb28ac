/- Layer 11's law package: its. Conditions: 419 nodes at most. -/
import Derived.Test.YthgagmndefaniaaG03
import Derived.Laws.RangeAny
import Derived.RowKit
import Derived.Test.YthgagmndefaniaaShelf
import Derived.Laws.Runes
import Derived.Lib.Bytealg
import Derived.WalkKit
import Derived.Deep.QuietTactic
import Derived.BigQuiet
import Derived.Deep.LoopGhost
import Derived.Lib.Hide
import Derived.Lib.OthersKept
import Derived.WalkMore
import Derived.LoopNIn
import Derived.OwnWalkIn
import Derived.IntWalk
import Derived.OneCell
import Derived.Lib.TrimU
import Derived.RangeFuncRecord
namespace Go.Proofs
open Go.RowKit Go.Shelf Go.Canon
attribute [local go_sem] Oper.semAt_some
set_option maxRecDepth 100000 in
set_option maxHeartbeats 2000000 in
theorem Try.fits11_calls (x : Ins) (vn vm : Value) (w : World) (hx : HasIns w vn vm x) (h1 : x.nodes.length ≤ 419) :
    Calls Try.prog 18 #[insV x vn vm] w fun e w' => ∃ v', e = .returned (insV x v' vm) ∧ w'.ownsRow (w.heap.size + 3) 70 7 v' x.nodes.length (x.nodes.flatMap ndC) ∧ Below w.heap.size w w' := by
  obtain ⟨i0, hi, hz0, hz1, hz2⟩ := info_parts Try.info70
  have HI := Lib.hid hi
  obtain ⟨an, cn, rfl, hn⟩ := hx.nodes.dat
  obtain ⟨am, cm, rfl, _⟩ := hx.matrix.dat
  unfold insV
  clear hi hx
  go_enter Try.func18, Try.ntmps18
  go_wp2
  go_loopw [4] (fun i wr => ∃ (k : Nat) (v : Value), k ≤ x.nodes.length ∧ i = .int .i64 (k : Int) ∧ ItsS w x (.slice an x.nodes.length cn) (.slice am x.matrix.length cm) wr v (x.nodes.take k)) (fun i _ => x.nodes.length - (intOf i).toNat)
  case atStart => exact ⟨0, _, Nat.zero_le _, rfl, its_start _ _ _ _ _⟩
  case round =>
    obtain ⟨k, v, hk, rfl, hS⟩ := hrel
    have HS := Lib.hid hS
    have p6 := hS.p6
    have row := hS.row
    have sz := hS.sz
    by_cases hlt : k < x.nodes.length
    · obtain ⟨d, hd⟩ : ∃ d, x.nodes[k]? = some d := ⟨_, List.getElem?_eq_getElem hlt⟩
      rcases hn with h0 | ⟨b, off, rfl, hN⟩
      · rw [h0] at hlt; simp at hlt
      have hki : (k : Int) < (x.nodes.length : Int) := by omega
      have hk4 : (k : Int) < 420 := by omega
      obtain ⟨x0, x1, x2, x3, x4, x5, x6⟩ := (hN.2 k d hd).below hS.below hN.1
      have y6 : wr.cell? ⟨w.heap.size + 2, 6, none⟩ = some v := hS.y 6
      have f6 : wr.frozen? ⟨w.heap.size + 2, 6, none⟩ = false := by unfold World.frozen?; rw [hS.yb]; rfl
      have ya : ∀ o, (wr.alloc o).cell? ⟨w.heap.size + 2, 6, none⟩ = some v := fun o => ((below_box wr o).cell (p := ⟨w.heap.size + 2, 6, none⟩) (by show w.heap.size + 2 < _; omega)).trans y6
      have yb : ∀ o, (wr.alloc o).cell? ⟨w.heap.size + 1 + 1, 6, none⟩ = some v := ya
      have HT := Lib.hid (ctake_get hd)
      have hlen : (x.nodes.take k).length = k := by rw [List.length_take]; omega
      rw [hlen] at row
      have HLN := Lib.hid hlen
      have hml : k + 1 ≤ maxLen := by unfold maxLen; omega
      have hml2 : (k + 1) * 56 ≤ 140737488355328 := by omega
      have HK : Hid (∀ W' W1, Below wr.heap.size wr W' → W'.grownBy W1 v.ownBlock → W1.cell? ⟨w.heap.size + 2, 6, none⟩ = some v ∧ W1.frozen? ⟨w.heap.size + 2, 6, none⟩ = false) := fun W' W1 h1 h2 => by
        have e := (hS.keep h1 h2) (w.heap.size + 2) (by omega)
        exact ⟨(World.cell?_of_block (a := ⟨w.heap.size + 2, 6, none⟩) e).trans y6, (World.frozen?_of_block (a := ⟨w.heap.size + 2, 6, none⟩) e).trans f6⟩
      clear hS hd hlen hN
      go_wp2
      go_region_law (first
        | (refine step_append_any rfl (.tmp 32) (.tmp 38) 38 rfl (w.heap.size + 3) 70 i0 (.agg #[.int .i64 0, .int .i64 0, .int .i64 0, .int .i64 0, .int .i64 0, .int .i64 0, .int .i64 0]) 7 56 Try.underlying38 HI.out hz0 hz1 hz2 rfl (by decide) v k ((x.nodes.take k).flatMap ndC) rfl (by repeat first | exact row | (with_reducible refine cowns_drew ?_) | (with_reducible refine World.ownsRow.alloc ?_ _)) ⟨wr.heap.size, 0, none⟩ 1 1 (ndC d) rfl rfl (fun j u h => cells_arr _ _ _ j u h) (by simp [Value.oneCell', ndC]) hml hml2 (by simp; omega) ?_; intro v' w1 hown' hgrow; have HH := HK.out _ _ (by repeat first | exact Below.refl _ _ | (with_reducible refine cbelow_drew ?_) | (with_reducible refine Below.alloc ?_ (Nat.le_refl _) _)) hgrow; have HA := Lib.hid (HS.out.add (by rw [HLN.out]; exact hown') (by repeat first | exact Below.refl _ _ | (with_reducible refine cbelow_drew ?_) | (with_reducible refine Below.alloc ?_ (Nat.le_refl _) _)) hgrow); obtain ⟨y6', f6'⟩ := HH; obtain ⟨g', cap', rfl⟩ := ownsRow_succ hown'; clear hown' hgrow))
      all_goals (go_wp2; go_roundw; (case rel => exact ⟨k + 1, _, by omega, by go_num, by rw [HT.out]; exact HA.out⟩); (case measure => simp [intOf]; omega))
    · obtain rfl : k = x.nodes.length := by omega
      rw [List.take_length] at row
      have hB := hS.below
      have rb := hS.rb
      have y0 : wr.cell? ⟨w.heap.size + 2, 0, none⟩ = some (.string x.name) := hS.y 0
      have r0 : wr.cell? ⟨w.heap.size + 1, 0, none⟩ = some (.string ⟨#[]⟩) := by unfold World.cell?; rw [rb]; rfl
      have f0 : wr.frozen? ⟨w.heap.size + 1, 0, none⟩ = false := by unfold World.frozen?; rw [rb]; rfl
      have y1 : wr.cell? ⟨w.heap.size + 2, 1, none⟩ = some (.int .i64 x.kind) := hS.y 1
      have r1 : wr.cell? ⟨w.heap.size + 1, 1, none⟩ = some (.int .i64 0) := by unfold World.cell?; rw [rb]; rfl
      have f1 : wr.frozen? ⟨w.heap.size + 1, 1, none⟩ = false := by unfold World.frozen?; rw [rb]; rfl
      have y2 : wr.cell? ⟨w.heap.size + 2, 2, none⟩ = some (.int .i64 x.metric) := hS.y 2
      have r2 : wr.cell? ⟨w.heap.size + 1, 2, none⟩ = some (.int .i64 0) := by unfold World.cell?; rw [rb]; rfl
      have f2 : wr.frozen? ⟨w.heap.size + 1, 2, none⟩ = false := by unfold World.frozen?; rw [rb]; rfl
      have y3 : wr.cell? ⟨w.heap.size + 2, 3, none⟩ = some (.int .i64 x.scale) := hS.y 3
      have r3 : wr.cell? ⟨w.heap.size + 1, 3, none⟩ = some (.int .i64 0) := by unfold World.cell?; rw [rb]; rfl
      have f3 : wr.frozen? ⟨w.heap.size + 1, 3, none⟩ = false := by unfold World.frozen?; rw [rb]; rfl
      have y4 : wr.cell? ⟨w.heap.size + 2, 4, none⟩ = some (.int .i64 x.cap) := hS.y 4
      have r4 : wr.cell? ⟨w.heap.size + 1, 4, none⟩ = some (.int .i64 0) := by unfold World.cell?; rw [rb]; rfl
      have f4 : wr.frozen? ⟨w.heap.size + 1, 4, none⟩ = false := by unfold World.frozen?; rw [rb]; rfl
      have y5 : wr.cell? ⟨w.heap.size + 2, 5, none⟩ = some (.int .i64 x.fleet) := hS.y 5
      have r5 : wr.cell? ⟨w.heap.size + 1, 5, none⟩ = some (.int .i64 0) := by unfold World.cell?; rw [rb]; rfl
      have f5 : wr.frozen? ⟨w.heap.size + 1, 5, none⟩ = false := by unfold World.frozen?; rw [rb]; rfl
      have y6 : wr.cell? ⟨w.heap.size + 2, 6, none⟩ = some (v) := hS.y 6
      have r6 : wr.cell? ⟨w.heap.size + 1, 6, none⟩ = some (.slice none 0 0) := by unfold World.cell?; rw [rb]; rfl
      have f6 : wr.frozen? ⟨w.heap.size + 1, 6, none⟩ = false := by unfold World.frozen?; rw [rb]; rfl
      have y7 : wr.cell? ⟨w.heap.size + 2, 7, none⟩ = some (.slice am x.matrix.length cm) := hS.y 7
      have r7 : wr.cell? ⟨w.heap.size + 1, 7, none⟩ = some (.slice none 0 0) := by unfold World.cell?; rw [rb]; rfl
      have f7 : wr.frozen? ⟨w.heap.size + 1, 7, none⟩ = false := by unfold World.frozen?; rw [rb]; rfl
      have HR := Lib.hid row
      have HB := Lib.hid hB
      clear hS rb row hB HS hlt hn
      obtain ⟨ao, vn, vc, rfl⟩ : ∃ ao n c, v = .slice ao n c := by
        rcases HR.out.2 with ⟨rfl, _⟩ | ⟨g, cap, cur, rfl, _⟩
        · exact ⟨_, _, _, rfl⟩
        · exact ⟨_, _, _, rfl⟩
      go_wp2
      refine bodyPost_ret (v := .agg #[.string x.name, .int .i64 x.kind, .int .i64 x.metric, .int .i64 x.scale, .int .i64 x.cap, .int .i64 x.fleet, .slice ao vn vc, .slice am x.matrix.length cm]) (by simp [results, Try.results18, go_sem, r0, r1, r2, r3, r4, r5, r6, r7]) rfl ⟨_, rfl, its_ret HR.out (by show w.heap.size + 1 < _; omega) _ _ _ _ _ _ _ _, ?_⟩
      exact ((((((((HB.out.setCell (by simp) _).setCell (by simp) _).setCell (by simp) _).setCell (by simp) _).setCell (by simp) _).setCell (by simp) _).setCell (by simp) _).setCell (by simp) _)
end Go.Proofs
/- Plain facts on the signs of a text, on where a class of them is first met, and on words; no program. -/
namespace Go.Wds

theorem get_of (s : ByteArray) (k : Nat) (h : k < s.size) : s.get! k = s[k]'h := by
  have := get_at s k h; simpa using this
theorem list_get (s : ByteArray) (k : Nat) (h : k < s.size) : s.data.toList[k]? = some (s[k]'h) := by
  have h' : k < s.data.toList.length := by simpa using h
  rw [List.getElem?_eq_getElem h']; rfl

theorem cont_high (b : UInt8) (h : (b.toNat / 64 == 2) = true) : 128 ≤ b.toNat := by
  have h' : b.toNat / 64 = 2 := by simpa using h
  omega

/-- A sign that is no single low byte has high bytes alone. -/
theorem decode_wide (s : ByteArray) (pos : Nat) (h : pos < s.size) (ha : 128 ≤ (s[pos]'h).toNat) :
    128 ≤ (Utf8.decode s pos).1 ∧ 1 ≤ (Utf8.decode s pos).2 ∧ pos + (Utf8.decode s pos).2 ≤ s.size ∧ ∀ j, pos ≤ j → j < pos + (Utf8.decode s pos).2 → 128 ≤ (s.get! j).toNat := by
  have hb' : 128 ≤ (s.get! (pos + 0)).toNat := by rw [get_at s pos h]; exact ha
  have hh := decode_high s pos h (by omega)
  refine ⟨hh.1, hh.2, ?_⟩
  have hn : ¬ (s.get! (pos + 0)).toNat < 128 := by omega
  clear hh ha
  simp only [Utf8.decode]
  rw [if_neg (by simpa using hn)]
  have one : pos + 1 ≤ s.size ∧ ∀ j, pos ≤ j → j < pos + 1 → 128 ≤ (s.get! j).toNat := ⟨h, fun j h1 h2 => by
    have : j = pos := by omega
    subst this; simpa using hb'⟩
  have two : ∀ m, (m ≤ 3) → (∀ k, 1 ≤ k → k ≤ m → (decide (pos + k < s.size) && (s.get! (pos + k)).toNat / 64 == 2) = true) → pos + (m + 1) ≤ s.size ∧ ∀ j, pos ≤ j → j < pos + (m + 1) → 128 ≤ (s.get! j).toNat := by
    intro m hm hk
    refine ⟨?_, fun j h1 h2 => ?_⟩
    · rcases Nat.eq_zero_or_pos m with rfl | hp
      · exact h
      · have := hk m hp (Nat.le_refl _)
        simp at this; omega
    · by_cases e : j = pos
      · subst e; simpa using hb'
      · have := hk (j - pos) (by omega) (by omega)
        rw [Bool.and_eq_true] at this
        have := cont_high _ this.2
        rwa [show pos + (j - pos) = j from by omega] at this
  split
  · rename_i hc
    simp only [Bool.and_eq_true] at hc
    split
    · refine two 1 (by omega) fun k h1 h2 => ?_
      obtain rfl : k = 1 := by omega
      simpa using hc.2
    · exact one
  · split
    · rename_i hc
      simp only [Bool.and_eq_true] at hc
      split
      · refine two 2 (by omega) fun k h1 h2 => ?_
        rcases (by omega : k = 1 ∨ k = 2) with rfl | rfl
        · simpa using hc.1.2
        · simpa using hc.2
      · exact one
    · split
      · rename_i hc
        simp only [Bool.and_eq_true] at hc
        split
        · refine two 3 (by omega) fun k h1 h2 => ?_
          rcases (by omega : k = 1 ∨ k = 2 ∨ k = 3) with rfl | rfl | rfl
          · simpa using hc.1.1.2
          · simpa using hc.1.2
          · simpa using hc.2
        · exact one
      · exact one

/-- A class of signs that takes all of the high ones, or none. -/
def Flat (p : Nat → Bool) : Prop := ∀ r, 128 ≤ r → p r = p 128
/-- A class, asked of a byte. -/
def ofB (p : Nat → Bool) (c : UInt8) : Bool := p c.toNat

theorem class_step {p : Nat → Bool} (hp : Flat p) (s : ByteArray) (pos : Nat) (h : pos < s.size) :
    p (Utf8.decode s pos).1 = ofB p (s[pos]'h) ∧ 1 ≤ (Utf8.decode s pos).2 ∧ pos + (Utf8.decode s pos).2 ≤ s.size ∧
    (p (Utf8.decode s pos).1 = false → ∀ j, pos ≤ j → j < pos + (Utf8.decode s pos).2 → ofB p (s.get! j) = false) := by
  by_cases ha : (s[pos]'h).toNat < 128
  · rw [decode_ascii s pos h ha]
    refine ⟨rfl, Nat.le_refl _, h, fun hf j h1 h2 => ?_⟩
    have : j = pos := by simp at h2; omega
    subst this
    rw [get_of s j h]; exact hf
  · obtain ⟨h1, h2, h3, h4⟩ := decode_wide s pos h (by omega)
    have e1 : p (Utf8.decode s pos).1 = p 128 := hp _ h1
    refine ⟨?_, h2, h3, fun hf j h5 h6 => ?_⟩
    · rw [e1]; exact (hp _ (by omega)).symm
    · rw [e1] at hf
      unfold ofB
      rw [hp _ (h4 j h5 h6), hf]

/-- The place of the first byte of l of a class, of those from a up to b; b, if there is none. -/
def seekFrom (q : UInt8 → Bool) (l : List UInt8) (a : Nat) : Nat → Nat
  | 0 => a
  | n + 1 => if (l[a]?.map q).getD false then a else seekFrom q l (a + 1) n
def seekL (q : UInt8 → Bool) (l : List UInt8) (a b : Nat) : Nat := seekFrom q l a (b - a)

theorem seekFrom_le (q : UInt8 → Bool) (l : List UInt8) : ∀ n a, a ≤ seekFrom q l a n ∧ seekFrom q l a n ≤ a + n
  | 0, a => ⟨Nat.le_refl _, Nat.le_refl _⟩
  | n + 1, a => by
    unfold seekFrom
    split
    · omega
    · have := seekFrom_le q l n (a + 1); omega
theorem seek_ge (q : UInt8 → Bool) (l : List UInt8) (a b : Nat) : a ≤ seekL q l a b := (seekFrom_le q l _ a).1
theorem seek_le {q : UInt8 → Bool} {l : List UInt8} {a b : Nat} (h : a ≤ b) : seekL q l a b ≤ b := by
  have := (seekFrom_le q l (b - a) a).2
  unfold seekL; omega
/-- What is sought is at r, if none of those ahead is of the class, and it is, or is the end. -/
theorem seekFrom_eq {q : UInt8 → Bool} {l : List UInt8} {r : Nat} : ∀ {n a : Nat}, a ≤ r → r ≤ a + n → (∀ j c, a ≤ j → j < r → l[j]? = some c → q c = false) → (r < a + n → ∃ c, l[r]? = some c ∧ q c = true) → seekFrom q l a n = r
  | 0, a, h1, h2, _, _ => by unfold seekFrom; omega
  | n + 1, a, h1, h2, h3, h4 => by
    unfold seekFrom
    by_cases e : a = r
    · subst e
      obtain ⟨c, hc, hq⟩ := h4 (by omega)
      rw [hc]; simp [hq]
    · have hf : (l[a]?.map q).getD false = false := by
        cases hc : l[a]? with
        | none => rfl
        | some c => exact h3 a c (Nat.le_refl _) (by omega) hc
      rw [hf]
      exact seekFrom_eq (by omega) (by omega) (fun j c h5 h6 => h3 j c (by omega) h6) (fun h => h4 (by omega))
theorem seek_eq {q : UInt8 → Bool} {l : List UInt8} {a b r : Nat} (h1 : a ≤ r) (h2 : r ≤ b) (h3 : ∀ j c, a ≤ j → j < r → l[j]? = some c → q c = false) (h4 : r < b → ∃ c, l[r]? = some c ∧ q c = true) : seekL q l a b = r :=
  seekFrom_eq h1 (by omega) h3 (fun h => h4 (by omega))
theorem seekFrom_none {q : UInt8 → Bool} {l : List UInt8} : ∀ {n a : Nat}, ∀ j c, a ≤ j → j < seekFrom q l a n → l[j]? = some c → q c = false
  | 0, a, j, c, h1, h2, _ => by unfold seekFrom at h2; omega
  | n + 1, a, j, c, h1, h2, h3 => by
    unfold seekFrom at h2
    split at h2
    · omega
    · rename_i hf
      by_cases e : j = a
      · subst e; rw [h3] at hf; simpa using hf
      · exact seekFrom_none j c (by omega) h2 h3
theorem seek_none {q : UInt8 → Bool} {l : List UInt8} {a b j : Nat} {c : UInt8} (h1 : a ≤ j) (h2 : j < seekL q l a b) (h3 : l[j]? = some c) : q c = false := seekFrom_none j c h1 h2 h3
theorem seekFrom_at {q : UInt8 → Bool} {l : List UInt8} : ∀ {n a : Nat}, seekFrom q l a n < a + n → ∃ c, l[seekFrom q l a n]? = some c ∧ q c = true
  | 0, a, h => by unfold seekFrom at h; omega
  | n + 1, a, h => by
    unfold seekFrom at h ⊢
    split at h
    · rename_i hf
      rw [if_pos hf]
      cases hc : l[a]? with
      | none => rw [hc] at hf; simp at hf
      | some c => rw [hc] at hf; exact ⟨c, rfl, by simpa using hf⟩
    · rename_i hf
      rw [if_neg hf]
      exact seekFrom_at (by omega)
theorem seek_at {q : UInt8 → Bool} {l : List UInt8} {a b : Nat} (hab : a ≤ b) (h : seekL q l a b < b) : ∃ c, l[seekL q l a b]? = some c ∧ q c = true :=
  seekFrom_at (by unfold seekL at h; omega)

/-- A blank. -/
def blk (c : UInt8) : Bool := c == 32 || c == 9
/-- No blank. -/
def ink (c : UInt8) : Bool := !(c == 32 || c == 9)

/-- The words of the n bytes of l from a on, told byte by byte. -/
def grow (l : List UInt8) (a i : Nat) (out : List (Nat × Nat)) : List (Nat × Nat) :=
  if (l[i]?.map blk).getD true then out
  else if a < i ∧ (l[i - 1]?.map blk).getD true = false then out.dropLast ++ [((out.getLast?.map Prod.fst).getD 0, i + 1)]
  else out ++ [(i, i + 1)]
def wds (l : List UInt8) (a : Nat) : Nat → List (Nat × Nat)
  | 0 => []
  | n + 1 => grow l a (a + n) (wds l a n)
def wordsL (l : List UInt8) (a b : Nat) : List (Nat × Nat) := wds l a (b - a)

theorem wds_blank {l : List UInt8} {a n c : Nat} (h : ∀ j x, a + n ≤ j → j < a + n + c → l[j]? = some x → blk x = true) : wds l a (n + c) = wds l a n := by
  induction c with
  | zero => rfl
  | succ c ih =>
    show grow l a (a + (n + c)) (wds l a (n + c)) = _
    rw [ih (fun j x h1 h2 => h j x h1 (by omega))]
    unfold grow
    rw [if_pos]
    cases hc : l[a + (n + c)]? with
    | none => rfl
    | some x => exact h _ x (by omega) (by omega) hc
theorem wds_word {l : List UInt8} {a n c : Nat} (hl : a + n + (c + 1) ≤ l.length) (h0 : n = 0 ∨ ∀ x, l[a + n - 1]? = some x → blk x = true) (h : ∀ j x, a + n ≤ j → j < a + n + (c + 1) → l[j]? = some x → blk x = false) : wds l a (n + (c + 1)) = wds l a n ++ [(a + n, a + n + (c + 1))] := by
  induction c with
  | zero =>
    show grow l a (a + n) (wds l a n) = _
    unfold grow
    have hc : l[a + n]? = some l[a + n] := List.getElem?_eq_getElem (by omega)
    have hb := h _ _ (Nat.le_refl _) (by omega) hc
    rw [if_neg (by rw [hc]; simp [hb]), if_neg]
    · rcases h0 with h0 | h0
      · subst h0; omega
      · rintro ⟨h1, h2⟩
        have hd : l[a + n - 1]? = some l[a + n - 1] := List.getElem?_eq_getElem (by omega)
        rw [hd] at h2
        have := h0 _ hd
        simp [this] at h2
  | succ c ih =>
    have ih := ih (by omega) (fun j x h1 h2 => h j x h1 (by omega))
    show grow l a (a + (n + (c + 1))) (wds l a (n + (c + 1))) = _
    rw [ih]
    unfold grow
    have hc : l[a + (n + (c + 1))]? = some l[a + (n + (c + 1))] := List.getElem?_eq_getElem (by omega)
    have hb := h _ _ (by omega) (by omega) hc
    have hd : l[a + (n + (c + 1)) - 1]? = some l[a + (n + (c + 1)) - 1] := List.getElem?_eq_getElem (by omega)
    have hb2 := h _ _ (by omega) (by omega) hd
    rw [if_neg (by rw [hc]; simp [hb]), if_pos ⟨by omega, by rw [hd]; simp [hb2]⟩]
    simp
    omega

theorem words_blank {l : List UInt8} {a b c : Nat} (hab : a ≤ b) (hbc : b ≤ c) (h : ∀ j x, b ≤ j → j < c → l[j]? = some x → blk x = true) : wordsL l a c = wordsL l a b := by
  have := wds_blank (l := l) (a := a) (n := b - a) (c := c - b) (fun j x h1 h2 => h j x (by omega) (by omega))
  rw [show b - a + (c - b) = c - a from by omega] at this
  exact this
theorem words_word {l : List UInt8} {a b c : Nat} (hab : a ≤ b) (hbc : b < c) (hl : c ≤ l.length) (h0 : b = a ∨ ∀ x, l[b - 1]? = some x → blk x = true) (h : ∀ j x, b ≤ j → j < c → l[j]? = some x → blk x = false) : wordsL l a c = wordsL l a b ++ [(b, c)] := by
  have := wds_word (l := l) (a := a) (n := b - a) (c := c - b - 1) (by omega) (by rcases h0 with h0 | h0; exact .inl (by omega); exact .inr (by rw [show a + (b - a) = b from by omega]; exact h0)) (fun j x h1 h2 => h j x (by omega) (by omega))
  rw [show b - a + (c - b - 1 + 1) = c - a from by omega, show a + (b - a) = b from by omega, show b + (c - b - 1 + 1) = c from by omega] at this
  exact this
theorem words_nil (l : List UInt8) (a : Nat) : wordsL l a a = [] := by unfold wordsL; rw [Nat.sub_self]; rfl
theorem words_len (l : List UInt8) (a b : Nat) : (wordsL l a b).length ≤ b - a := by
  unfold wordsL
  generalize b - a = n
  induction n with
  | zero => exact Nat.le_refl _
  | succ n ih =>
    show (grow l a (a + n) (wds l a n)).length ≤ _
    unfold grow
    split
    · omega
    · split
      · simp; omega
      · simp; omega
end Go.Wds
/- strings.IndexRune and strings.ContainsRune in this program, at a text of low bytes. Conditions: the text's bytes are all below 128; the sign is one that a decoder can tell. -/
namespace Go.Wds
theorem indexByte_ge (l : List UInt8) (c : UInt8) : -1 ≤ Lib.indexByte l c := by
  induction l with
  | nil => exact Int.le_refl _
  | cons b l ih =>
    unfold Lib.indexByte
    split
    · omega
    · split
      · omega
      · omega
theorem indexByte_mem (l : List UInt8) (c : UInt8) : decide (0 ≤ Lib.indexByte l c) = l.any (fun x => x == c) := by
  induction l with
  | nil => rfl
  | cons b l ih =>
    unfold Lib.indexByte
    have h1 := indexByte_ge l c
    rw [List.any_cons, ← ih]
    cases hb : b == c with
    | true => simp
    | false =>
      rw [Bool.false_or]
      by_cases h2 : Lib.indexByte l c = -1
      · simp [h2]
      · have h3 : (Lib.indexByte l c == -1) = false := by rw [beq_eq_false_iff_ne]; exact h2
        rw [if_neg (by simp), if_neg (by rw [h3]; simp), decide_eq_decide]; omega
theorem indexByte_none {l : List UInt8} {c : UInt8} (h : ∀ x ∈ l, x ≠ c) : Lib.indexByte l c = -1 := by
  have h1 := indexByte_mem l c
  have h2 := indexByte_ge l c
  have h3 : l.any (fun x => x == c) = false := by
    rw [List.any_eq_false]
    intro x hx
    simpa using h x hx
  rw [h3, decide_eq_false_iff_not] at h1
  omega
/-- A text of low bytes. -/
def Low (s : ByteArray) : Prop := ∀ x ∈ s.data.toList, x.toNat < 128
theorem Low.at {s : ByteArray} (h : Low s) (k : Nat) (hk : k < s.size) : (s[k]'hk).toNat < 128 :=
  h _ (List.mem_of_getElem? (list_get s k hk))
/-- Whether a text has a sign. -/
def has (s : ByteArray) (r : Nat) : Bool := s.data.toList.any (fun c => c.toNat == r)
theorem has_high {s : ByteArray} (h : Low s) {r : Nat} (hr : 128 ≤ r) : has s r = false := by
  unfold has
  rw [List.any_eq_false]
  intro x hx
  have := h x hx
  simp; omega
theorem has_low (s : ByteArray) {r : Nat} (hr : r < 128) : decide (0 ≤ Lib.indexByte s.data.toList (r : Int).toNat.toUInt8) = has s r := by
  rw [indexByte_mem]
  unfold has
  congr 1
  funext x
  have h1 : ((r : Int).toNat.toUInt8).toNat = r := by simp; omega
  rw [Bool.eq_iff_iff, beq_iff_eq, beq_iff_eq, ← UInt8.toNat_inj, h1]
end Go.Wds
namespace Go.Proofs
open Go.RowKit Go.Shelf Go.Wds


end Go.Proofs
/- The classes of signs of this program: what the closures of words.oneOf, span, not and either answer. Conditions: signs that a decoder can tell; a list of low bytes. -/
namespace Go.Proofs
open Go.RowKit Go.Shelf Go.Wds

/-- The closure g with what it holds, lb, is the class p: in w and in whatever w grows into. -/
def Class (g : Nat) (lb : Array Value) (p : Nat → Bool) (w : World) : Prop :=
  ∀ (W : World) (x : Nat), x ≤ 1114111 → Below w.heap.size w W → Calls Try.prog g (#[.int .i32 (x : Int)] ++ lb) W fun e w' => e = .returned (.bool (p x)) ∧ Below W.heap.size W w'
theorem Class.later {g : Nat} {lb : Array Value} {p : Nat → Bool} {w W : World} (h : Class g lb p w) (hb : Below w.heap.size w W) : Class g lb p W :=
  fun W' x hx hb' => h W' x hx (hb.trans (hb'.mono hb.size))
/-- A value of a class, and what it is to call it. -/
def IsClass (v : Value) (p : Nat → Bool) (w : World) : Prop :=
  ∃ (g : Nat) (lb : Array Value), v = .func (.func g) #[] lb ∧ (∀ args w, (callFunc g args).run Try.prog w = .ok (.enter g args) w) ∧ Class g lb p w
theorem IsClass.later {v : Value} {p : Nat → Bool} {w W : World} (h : IsClass v p w) (hb : Below w.heap.size w W) : IsClass v p W := by
  obtain ⟨g, lb, h1, h2, h3⟩ := h
  exact ⟨g, lb, h1, h2, h3.later hb⟩


/-- The box of a closure: a cell of w that stands. -/
def Box (w : World) (b : Nat) (v : Value) : Prop := b < w.heap.size ∧ w.cell? ⟨b, 0, none⟩ = some v
theorem Box.later {w W : World} {b : Nat} {v : Value} (h : Box w b v) {n : Nat} (hb : Below n w W) (hn : b < n) : Box W b v :=
  ⟨Nat.lt_of_lt_of_le h.1 hb.size, (hb.cell (p := ⟨b, 0, none⟩) hn).trans h.2⟩
theorem Box.new (w : World) (v : Value) (t : TypeId) : Box (w.alloc (.cells #[v] t)) w.heap.size v := ⟨by simp, by simp⟩


def between (a b : Nat) (r : Nat) : Bool := decide (a ≤ r) && decide (r ≤ b)


/-- The block g holds classes ps. -/
def Hold (w : World) (g : Nat) (ps : List (Nat → Bool)) : Prop :=
  g < w.heap.size ∧ ∀ (i : Nat) (p : Nat → Bool), ps[i]? = some p → ∃ v, w.cell? ⟨g, i, none⟩ = some v ∧ IsClass v p w
theorem Hold.later {w W : World} {g : Nat} {ps : List (Nat → Bool)} (h : Hold w g ps) (hb : Below w.heap.size w W) : Hold W g ps := by
  refine ⟨Nat.lt_of_lt_of_le h.1 hb.size, fun i p hp => ?_⟩
  obtain ⟨v, h1, h2⟩ := h.2 i p hp
  exact ⟨v, (hb.cell (p := ⟨g, i, none⟩) h.1).trans h1, h2.later hb⟩
def anyOf (ps : List (Nat → Bool)) (x : Nat) : Bool := ps.any (fun p => p x)
theorem any_step {ps : List (Nat → Bool)} {k : Nat} {p : Nat → Bool} (h : ps[k]? = some p) (x : Nat) : anyOf (ps.drop k) x = (p x || anyOf (ps.drop (k + 1)) x) := by
  obtain ⟨hk, rfl⟩ := List.getElem?_eq_some_iff.1 h
  rw [List.drop_eq_getElem_cons hk]; rfl


end Go.Proofs
/- words.seek and words.inside of this program, as contracts. Conditions: a part of a text; a class of signs that takes all of the high ones, or none. -/
namespace Go.Wds
theorem extract_size' (s : ByteArray) {a b : Nat} (hab : a ≤ b) (hb : b ≤ s.size) : (s.extract a b).size = b - a := by
  simp [ByteArray.size_extract]; omega
theorem extract_at (s : ByteArray) {a b j : Nat} (hj : j < (s.extract a b).size) (h : a + j < s.size) : (s.extract a b)[j]'hj = s[a + j]'h := by
  rw [ByteArray.getElem_extract]
end Go.Wds
namespace Go.Proofs
open Go.RowKit Go.Shelf Go.Wds


/-- Whether two numbers are the places of a part of n bytes. -/
def inB (n : Nat) (a b : Int) : Bool := decide (0 ≤ a ∧ a ≤ b ∧ b ≤ n)
end Go.Proofs
/- words.all, words.fits, words.Plain, words.Name, and words.either at three and four classes, of this program, as contracts. Conditions: a text of at most two million bytes. -/
namespace Go.Wds
theorem all_seek (q : UInt8 → Bool) (l : List UInt8) : decide (seekL (fun c => !q c) l 0 l.length = l.length) = l.all q := by
  rw [Bool.eq_iff_iff, decide_eq_true_iff, List.all_eq_true]
  constructor
  · intro h x hx
    obtain ⟨i, hi⟩ := List.mem_iff_getElem?.1 hx
    have hil : i < l.length := (List.getElem?_eq_some_iff.1 hi).1
    have := seek_none (q := fun c => !q c) (l := l) (a := 0) (b := l.length) (Nat.zero_le i) (by omega) hi
    simpa using this
  · intro h
    refine seek_eq (Nat.zero_le _) (Nat.le_refl _) (fun j c _ _ hc => ?_) (fun h => by omega)
    have := h c (List.mem_of_getElem? hc)
    simp [this]
/-- All bytes are of a class. -/
def allL (q : UInt8 → Bool) (l : List UInt8) : Bool := l.all q
/-- 1 to 40 bytes, all of a class. -/
def fitL (q : UInt8 → Bool) (l : List UInt8) : Bool := decide (1 ≤ l.length) && decide (l.length ≤ 40) && allL q l
end Go.Wds
namespace Go.Proofs
open Go.RowKit Go.Shelf Go.Wds



theorem cells_of (W : World) (c : Array Value) (t : TypeId) (j : Nat) (u : Value) (h : c[j]? = some u) : (W.alloc (.cells c t)).cell? ⟨W.heap.size, j, none⟩ = some u := by
  unfold World.cell?
  simp only [World.alloc_heap_new]
  simpa using h
end Go.Proofs
