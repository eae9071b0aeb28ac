/- words.trim of this program, and the document's own trimmed, as contracts. Conditions: a text of at most two million bytes; a part of it. -/
import Derived.Test.YtlgdhopiifoikaaRFields
import Derived.StillTailTactics
import Derived.RegionTactic
import Derived.ChangeAlike
namespace Go.Wds
theorem trimL_nil {l : List UInt8} {a b : Nat} (h : wordsL l a b = []) : trimL l a b = (b, b) := by unfold trimL; rw [h]; rfl
theorem trimL_some {l : List UInt8} {a b : Nat} (h : 0 < (wordsL l a b).length) : ∃ q p, (wordsL l a b)[0]? = some ((trimL l a b).1, q) ∧ (wordsL l a b)[(wordsL l a b).length - 1]? = some (p, (trimL l a b).2) := by
  unfold trimL
  cases hw : wordsL l a b with
  | nil => rw [hw] at h; simp at h
  | cons x r =>
    refine ⟨x.2, ((x :: r).getLast (by simp)).1, rfl, ?_⟩
    have := List.getLast?_eq_getElem? (l := x :: r)
    rw [← this, List.getLast?_eq_some_getLast (by simp)]
    rfl
theorem fieldsI_nat {s : ByteArray} {a b : Nat} (hab : a ≤ b) (hb : b ≤ s.size) : fieldsI s (a : Int) (b : Int) = wordsL s.data.toList a b := by
  unfold fieldsI; rw [if_pos (Go.Proofs.inB_nat hab hb)]; rfl
end Go.Wds
namespace Go.Proofs
open Go.RowKit Go.Shelf Go.Wds

/-- A block of two cells of its own. -/
theorem pair_own {w w1 : World} {x y : Value} {t : TypeId} (hb : Below (w.alloc (.cells #[x, y] t)).heap.size (w.alloc (.cells #[x, y] t)) w1) :
    w1.cell? ⟨w.heap.size, 0, none⟩ = some x ∧ w1.cell? ⟨w.heap.size, 1, none⟩ = some y ∧ w1.frozen? ⟨w.heap.size, 0, none⟩ = false ∧ w1.frozen? ⟨w.heap.size, 1, none⟩ = false ∧ w.heap.size < w1.heap.size := by
  have hs := hb.size
  simp only [show (w.alloc (.cells #[x, y] t)).heap.size = w.heap.size + 1 from by simp] at hb hs
  refine ⟨(hb.cell (p := ⟨w.heap.size, 0, none⟩) (by simp)).trans (by simp), (hb.cell (p := ⟨w.heap.size, 1, none⟩) (by simp)).trans (by simp), (hb.frozen (p := ⟨w.heap.size, 0, none⟩) (by simp)).trans (by unfold World.frozen?; simp only [World.alloc_heap_new]; rfl), (hb.frozen (p := ⟨w.heap.size, 1, none⟩) (by simp)).trans (by unfold World.frozen?; simp only [World.alloc_heap_new]; rfl), by omega⟩

set_option maxRecDepth 100000 in
set_option maxHeartbeats 1000000 in
theorem Try.trim_calls (s : ByteArray) (a b : Nat) (w : World) (hab : a ≤ b) (hb : b ≤ s.size) (hs : s.size ≤ 2000000) :
    Calls Try.prog 31 #[.string s, .int .i64 (a : Int), .int .i64 (b : Int)] w fun e w' => e = .returned (.agg #[.int .i64 ((trimL s.data.toList a b).1 : Nat), .int .i64 ((trimL s.data.toList a b).2 : Nat)]) ∧ Below w.heap.size w w' := by
  have hmx : Try.prog.follows .mixedOrders = true := by kernel_rfl
  have hc := Lib.hid fun W => Try.Fields_calls s (a : Int) (b : Int) W hs
  rw [fieldsI_nat hab hb] at hc
  have h0 := fun h => trimL_nil (l := s.data.toList) (a := a) (b := b) h
  have h1 := fun h => trimL_some (l := s.data.toList) (a := a) (b := b) h
  have hlen := words_len s.data.toList a b
  obtain ⟨⟨F, T⟩, hFT⟩ : ∃ FT, trimL s.data.toList a b = FT := ⟨_, rfl⟩
  rw [hFT] at h0 h1 ⊢
  obtain ⟨ps, hps⟩ : ∃ ps, wordsL s.data.toList a b = ps := ⟨_, rfl⟩
  rw [hps] at hc h0 h1 hlen
  have H0 := Lib.hid h0
  have H1 := Lib.hid h1
  clear h0 h1 hFT hps
  go_enter Try.func31, Try.ntmps31
  go_wp2_with (fail)
  refine (hc.out _).mono ?_
  rintro e w1 ⟨v, rfl, hv, hb1⟩
  obtain ⟨r0, r1, f0, f1, hz⟩ := pair_own hb1
  have hB : Below w.heap.size w w1 := ((Below.refl _ _).alloc (Nat.le_refl _) _).trans (hb1.mono (by simp))
  clear hb1
  rcases hv.split with ⟨hn, ao, cap, rfl⟩ | ⟨hpos, g, cap, rfl, hg⟩
  · have e0 := H0.out hn
    simp only [Prod.mk.injEq] at e0
    have E0 := Lib.hid e0
    clear hv hn e0 H0 H1
    go_wp2
    refine bodyPost_ret (v := .agg #[.int .i64 (b : Nat), .int .i64 (b : Nat)]) (by simp [results, Try.results31, go_sem, r0, r1]) rfl ⟨by rw [E0.out.1, E0.out.2], ?_⟩
    exact (hB.setCell (by simp) _).setCell (by simp) _
  · obtain ⟨q, p, g0, g1⟩ := H1.out hpos
    obtain ⟨_, x0, _⟩ := hv.at g0
    obtain ⟨_, _, x1⟩ := hv.at g1
    obtain ⟨n, hn⟩ : ∃ n, ps.length = n + 1 := ⟨ps.length - 1, by omega⟩
    rw [hn] at x1 ⊢
    rw [Nat.add_sub_cancel] at x1
    have hn2 : n ≤ 2000000 := by omega
    clear hv H0 H1 g0 g1 hn hlen hpos
    have w1' : IntKind.i64.wrap (n : Int) = (n : Int) := IntWalk.i64_in _ (by omega)
    have i1 : (n : Int) < (n : Int) + 1 := by omega
    have i2 : (0 : Int) < (n : Int) + 1 := by omega
    go_wp2
    go_still_tail 12, (by kernel_rfl)
    change wpList _ _ _ _ _ w1.drew
    obtain ⟨V, hV⟩ : ∃ V, V = w1.drew := ⟨_, rfl⟩
    rw [← hV]
    have hB5 : Below w.heap.size w V := by rw [hV]; exact hB.drew
    replace r0 : V.cell? ⟨w.heap.size, 0, none⟩ = some (.int .i64 0) := by rw [hV]; exact r0
    replace r1 : V.cell? ⟨w.heap.size, 1, none⟩ = some (.int .i64 0) := by rw [hV]; exact r1
    replace f0 : V.frozen? ⟨w.heap.size, 0, none⟩ = false := by rw [hV]; exact f0
    replace f1 : V.frozen? ⟨w.heap.size, 1, none⟩ = false := by rw [hV]; exact f1
    clear hV hB w1' i1 i2 x0 x1
    go_wp2
    refine bodyPost_ret (v := .agg #[.int .i64 (F : Nat), .int .i64 (T : Nat)]) (by simp [results, Try.results31, go_sem, r0, r1]) rfl ⟨rfl, ?_⟩
    exact (hB5.setCell (by simp) _).setCell (by simp) _
#print axioms Try.trim_calls
end Go.Proofs
