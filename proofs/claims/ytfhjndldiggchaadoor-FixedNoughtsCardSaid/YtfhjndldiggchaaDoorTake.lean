/- fixed.take, Int and Read. Conditions: a text that a string can be. -/
import Derived.Test.YtfhjndldiggchaaDoorNumber
import Derived.Test.YtfhjndldiggchaaDoorTo
namespace Go.Proofs
open Go.RowKit Go.Fx
attribute [local go_sem] Oper.semAt_some

theorem Tryd.end_panic (b : Nat) (l : List UInt8) (hl : l ≠ []) (w : World) (hc : w.cell? ⟨b, 0, none⟩ = some (.string ⟨l.toArray⟩)) :
    Calls Tryd.prog 38 #[.pointer (some ⟨b, 0, none⟩)] w fun e w' => e = .panicked [{ v := .iface 23 (.int .i64 20), recovered := false }] ∧ w = w' :=
  Tryd.end_some b l hl w hc
theorem mode_same {c : Frame} {m : FrameMode} (h : c.mode = m) : c = { c with mode := m } := by subst h; rfl
theorem Tryd.catch_idle (p q : Addr) (w : World) :
    CallsD Tryd.prog 37 #[.pointer (some p), .pointer (some q)] .returning w fun e u' w' => e = .returned (.tuple #[]) ∧ u' = .returning ∧ w' = w := by
  refine callsD_of_wpS Tryd.func37 rfl fun c₀ cs hu => ?_
  simp only [Tryd.ntmps37, List.size_toArray, List.length_cons, List.length_nil, Nat.reduceAdd, Nat.reduceSub, Array.replicate_succ, Array.replicate_zero, List.push_toArray, List.append_toArray, List.nil_append, List.cons_append]
  apply wpS_seq
  apply wpS_region
  simp [wpOpsS, go_sem, recoverD, hu, Exit.thenS]
  refine wpS_of_wp ?_
  go_wp2
  exact ⟨rfl, .returning, by rw [← mode_same hu], .tuple #[], by simp [results, Tryd.results37, go_sem], rfl, rfl, rfl⟩
theorem Tryd.catch_panic (b c : Nat) (hbc : b ≠ c) (w : World) (k : Int) (older : List PanicEntry) (u0 u1 u2 : Value) (h0 : w.cell? ⟨b, 0, none⟩ = some u0) (h1 : w.cell? ⟨b, 1, none⟩ = some u1) (h2 : w.cell? ⟨c, 0, none⟩ = some u2)
    (f0 : w.frozen? ⟨b, 0, none⟩ = false) (f1 : w.frozen? ⟨b, 1, none⟩ = false) (f2 : w.frozen? ⟨c, 0, none⟩ = false) :
    CallsD Tryd.prog 37 #[.pointer (some ⟨b, 0, none⟩), .pointer (some ⟨c, 0, none⟩)] (.panicking ({ v := .iface 23 (.int .i64 k), recovered := false } :: older)) w fun e u' w' =>
      e = .returned (.tuple #[]) ∧ u' = .panicking ({ v := .iface 23 (.int .i64 k), recovered := true } :: older) ∧ w' = (((w.setCell ⟨b, 0, none⟩ (.int .i64 0)).setCell ⟨b, 1, none⟩ (.int .i64 0)).setCell ⟨c, 0, none⟩ (.int .i64 k)).drew := by
  refine callsD_of_wpS Tryd.func37 rfl fun c₀ cs hu => ?_
  simp only [Tryd.ntmps37, List.size_toArray, List.length_cons, List.length_nil, Nat.reduceAdd, Nat.reduceSub, Array.replicate_succ, Array.replicate_zero, List.push_toArray, List.append_toArray, List.nil_append, List.cons_append]
  apply wpS_seq
  apply wpS_region
  simp [wpOpsS, go_sem, recoverD, hu, Exit.thenS]
  refine wpS_of_wp ?_
  clear hu
  have hta : ∀ W, (Instr.typeAssert (.iface 23 (.int .i64 k)) 20 23 false).run Tryd.prog W = .ok (.int .i64 k) W := fun _ => by kernel_rfl
  go_wp2
  go_region
  exact ⟨rfl, _, rfl, .tuple #[], by simp [results, Tryd.results37, go_sem], rfl, rfl, rfl⟩

/-- What take tells: the number's two parts, and the error. -/
def takeN : Option (Int × Nat × List UInt8) → Int × Nat × Int
  | none => (0, 0, 20)
  | some (m, s, r) => if r = [] then (if fitB (least s m).1 = true then ((least s m).1, (least s m).2, 0) else (0, 0, 2)) else (0, 0, 20)

theorem boxed_at {W : World} {B : Nat} {t : TypeId} {v : Value} (h : B = W.heap.size) : Boxed (W.alloc (.cells #[v] t)) B t v := by subst h; exact Boxed.new _ _ _
/-- Where take stands: its two results, and its reader. -/
structure TakeSt (w : World) (r : List UInt8) (x y k : Int) (W : World) : Prop where
  c0 : W.cell? ⟨w.heap.size, 0, none⟩ = some (.int .i64 x)
  c1 : W.cell? ⟨w.heap.size, 1, none⟩ = some (.int .i64 y)
  c2 : W.cell? ⟨w.heap.size + 1, 0, none⟩ = some (.int .i64 k)
  f0 : W.frozen? ⟨w.heap.size, 0, none⟩ = false
  f1 : W.frozen? ⟨w.heap.size, 1, none⟩ = false
  f2 : W.frozen? ⟨w.heap.size + 1, 0, none⟩ = false
  box : Boxed W (w.heap.size + 1 + 1) 61 (.string ⟨r.toArray⟩)
  below : Below w.heap.size w W
theorem take_cells0 {w w1 : World} {v : Value} (h : But (w.heap.size + 1 + 1) (((w.alloc (.cells #[.int .i64 0, .int .i64 0] 27)).alloc (.cells #[.int .i64 0] 23)).alloc (.cells #[v] 61)) w1) :
    w1.cell? ⟨w.heap.size, 0, none⟩ = some (.int .i64 0) ∧ w1.cell? ⟨w.heap.size, 1, none⟩ = some (.int .i64 0) ∧ w1.cell? ⟨w.heap.size + 1, 0, none⟩ = some (.int .i64 0) ∧
    w1.frozen? ⟨w.heap.size, 0, none⟩ = false ∧ w1.frozen? ⟨w.heap.size, 1, none⟩ = false ∧ w1.frozen? ⟨w.heap.size + 1, 0, none⟩ = false ∧ Below w.heap.size w w1 := by
  refine ⟨?_, ?_, ?_, ?_, ?_, ?_, ?_⟩
  · rw [h.cell (by simp; omega) (by omega)]; simp [go_sem]
  · rw [h.cell (by simp; omega) (by omega)]; simp [go_sem]
  · rw [h.cell (by simp) (by omega)]; simp [go_sem]
  · rw [h.frozen (by simp; omega) (by omega)]; simp [go_sem]
  · rw [h.frozen (by simp; omega) (by omega)]; simp [go_sem]
  · rw [h.frozen (by simp) (by omega)]; simp [go_sem]
  · exact ((((Below.refl _ w).alloc (Nat.le_refl _) _).alloc (by simp) _).alloc (by simp; omega) _).trans (h.below (by omega) (by simp; omega))
theorem take_cells {w w1 : World} {r : List UInt8} {v : Value} (h : But (w.heap.size + 1 + 1) (((w.alloc (.cells #[.int .i64 0, .int .i64 0] 27)).alloc (.cells #[.int .i64 0] 23)).alloc (.cells #[v] 61)) w1) (hb : Boxed w1 (w.heap.size + 1 + 1) 61 (.string ⟨r.toArray⟩)) :
    TakeSt w r 0 0 0 w1 := by
  obtain ⟨a, b, c, d, e, f, g⟩ := take_cells0 h
  exact ⟨a, b, c, d, e, f, hb, g⟩
theorem TakeSt.grown {w W W' : World} {r : List UInt8} {x y k : Int} (h : TakeSt w r x y k W) (hb : Below W.heap.size W W') : TakeSt w r x y k W' := by
  have hl : w.heap.size + 1 + 1 < W.heap.size := h.box.lt
  obtain ⟨hc, hf⟩ := bcell hb
  exact ⟨(hc _ _ (by omega)).trans h.c0, (hc _ _ (by omega)).trans h.c1, (hc _ _ (by omega)).trans h.c2, (hf _ _ (by omega)).trans h.f0, (hf _ _ (by omega)).trans h.f1, (hf _ _ (by omega)).trans h.f2,
    Boxed.below h.box hb hl, h.below.trans (hb.mono h.below.size)⟩
theorem TakeSt.put {w W : World} {r : List UInt8} {x y k : Int} (h : TakeSt w r x y k W) (x' y' : Int) :
    TakeSt w r x' y' k ((W.setCell ⟨w.heap.size, 0, none⟩ (.int .i64 x')).setCell ⟨w.heap.size, 1, none⟩ (.int .i64 y')) := by
  obtain ⟨c0, c1, c2, f0, f1, f2, hb, hB⟩ := h
  exact ⟨by simp [go_sem, c0], by simp [go_sem, c1], by simp [go_sem, c2], by simp [go_sem, f0], by simp [go_sem, f1], by simp [go_sem, f2],
    Boxed.apart (Boxed.apart hb (by simp; omega) _) (by simp; omega) _, (hB.setCell (by simp) _).setCell (by simp) _⟩
set_option maxHeartbeats 400000 in
theorem Tryd.take_none (F : FuncId) (hF : ∀ args W, (callFunc F args).run Tryd.prog W = .ok (.enter F args) W) (l : List UInt8) (H : ∀ (b : Nat) (W : World), Boxed W b 61 (.string ⟨l.toArray⟩) → Calls Tryd.prog F #[.pointer (some ⟨b, 0, none⟩)] W fun e w' => e = .panicked [{ v := .iface 23 (.int .i64 20), recovered := false }] ∧ But b W w') (w : World) :
    Calls Tryd.prog 24 #[.string ⟨l.toArray⟩, .func (.func F) #[] #[]] w fun e w' => e = .returned (.tuple #[.agg #[.int .i64 0, .int .i64 0], .int .i64 20]) ∧ Below w.heap.size w w' := by
  have hmf : ∀ (fn : Fn) (first cap : Array Value) (w : World), (Instr.makeFunc fn first cap).run Tryd.prog w = .ok (.func fn first cap) w := fun _ _ _ _ => rfl
  have HH := Lib.hid H
  clear H
  go_enter_defers Tryd.func24, Tryd.ntmps24
  go_wp2_with (refine (HH.out (w.heap.size + 1 + 1) _ (boxed_at (by simp))).mono ?_; rintro e w1 ⟨rfl, hk⟩; obtain ⟨c0, c1, c2, f0, f1, f2, hB⟩ := take_cells0 hk)
  refine leaves_cons (f := 37) (args := #[.pointer (some ⟨w.heap.size, 0, none⟩), .pointer (some ⟨w.heap.size + 1, 0, none⟩)]) (by simp) (by simp [go_sem]) ?_
  refine (Tryd.catch_panic w.heap.size (w.heap.size + 1) (by omega) _ 20 [] _ _ _ c0 c1 c2 f0 f1 f2).mono ?_
  rintro e u' w'' ⟨rfl, rfl, rfl⟩
  refine ⟨.tuple #[.agg #[.int .i64 0, .int .i64 0], .int .i64 20], by simp [results, Tryd.results24, go_sem, c0, c1, c2], rfl, ?_⟩
  exact (((hB.setCell (by simp) _).setCell (by simp) _).setCell (by simp) _).drew

set_option maxHeartbeats 800000 in
theorem Tryd.take_rest (F : FuncId) (hF : ∀ args W, (callFunc F args).run Tryd.prog W = .ok (.enter F args) W) (l : List UInt8) (m : Int) (s : Nat) (r : List UInt8) (x : Int) (y : Nat) (hl : least s m = (x, y)) (hm0 : -9223372036854775807 ≤ m) (hm1 : m ≤ 9223372036854775807) (hs : s ≤ 6) (hr : r ≠ [])
    (H : ∀ (b : Nat) (W : World), Boxed W b 61 (.string ⟨l.toArray⟩) → Calls Tryd.prog F #[.pointer (some ⟨b, 0, none⟩)] W fun e w' => e = .returned (.agg #[.int .i64 m, .int .i64 (s : Int)]) ∧ Boxed w' b 61 (.string ⟨r.toArray⟩) ∧ But b W w') (w : World) :
    Calls Tryd.prog 24 #[.string ⟨l.toArray⟩, .func (.func F) #[] #[]] w fun e w' => e = .returned (.tuple #[.agg #[.int .i64 0, .int .i64 0], .int .i64 20]) ∧ Below w.heap.size w w' := by
  have hmf : ∀ (fn : Fn) (first cap : Array Value) (w : World), (Instr.makeFunc fn first cap).run Tryd.prog w = .ok (.func fn first cap) w := fun _ _ _ _ => rfl
  have HH := Lib.hid H
  have HL : Hid (∀ W, Calls Tryd.prog 18 #[.agg #[.int .i64 m, .int .i64 (s : Int)]] W fun e w' => e = .returned (.agg #[.int .i64 x, .int .i64 (y : Int)]) ∧ Below W.heap.size W w') := by
    intro W
    have := Tryd.Least_any m s hm0 hm1 hs W
    rwa [hl] at this
  have HR := Lib.hid hr
  clear H hr hl
  go_enter_defers Tryd.func24, Tryd.ntmps24
  go_wp2_with (refine (HH.out (w.heap.size + 1 + 1) _ (boxed_at (by simp))).mono ?_; rintro e w1 ⟨rfl, hb, hk⟩; have st := take_cells hk hb; clear hk hb)
  go_wp2_with (go_at_call 18; refine (HL.out _).mono ?_; rintro e w2 ⟨rfl, hg⟩; have st2 := st.grown hg; clear st hg; obtain ⟨c0, c1, c2, f0, f1, f2, hb, hB⟩ := id st2)
  have st3 := st2.put x (y : Int)
  clear c0 c1 c2 f0 f1 f2 hb hB st2
  generalize World.setCell (World.setCell w2 _ _) _ _ = W3 at st3 ⊢
  obtain ⟨c0, c1, c2, f0, f1, f2, hb, hB⟩ := st3
  go_wp2_with (go_at_call 38; refine (Tryd.end_panic _ r HR.out _ hb.cell).mono ?_; rintro e w3 ⟨rfl, rfl⟩)
  refine leaves_cons (f := 37) (args := #[.pointer (some ⟨w.heap.size, 0, none⟩), .pointer (some ⟨w.heap.size + 1, 0, none⟩)]) (by simp) (by simp [go_sem]) ?_
  refine (Tryd.catch_panic w.heap.size (w.heap.size + 1) (by omega) _ 20 [] _ _ _ c0 c1 c2 f0 f1 f2).mono ?_
  rintro e u' w'' ⟨rfl, rfl, rfl⟩
  refine ⟨.tuple #[.agg #[.int .i64 0, .int .i64 0], .int .i64 20], by simp [results, Tryd.results24, go_sem, c0, c1, c2], rfl, ?_⟩
  exact (((hB.setCell (by simp) _).setCell (by simp) _).setCell (by simp) _).drew

set_option maxHeartbeats 800000 in
theorem Tryd.take_full (F : FuncId) (hF : ∀ args W, (callFunc F args).run Tryd.prog W = .ok (.enter F args) W) (l : List UInt8) (m : Int) (s : Nat) (r : List UInt8) (x : Int) (y : Nat) (hl : least s m = (x, y)) (hm0 : -9223372036854775807 ≤ m) (hm1 : m ≤ 9223372036854775807) (hs : s ≤ 6) (hr : ¬ fitB x = true) (hr0 : r = [])
    (H : ∀ (b : Nat) (W : World), Boxed W b 61 (.string ⟨l.toArray⟩) → Calls Tryd.prog F #[.pointer (some ⟨b, 0, none⟩)] W fun e w' => e = .returned (.agg #[.int .i64 m, .int .i64 (s : Int)]) ∧ Boxed w' b 61 (.string ⟨r.toArray⟩) ∧ But b W w') (w : World) :
    Calls Tryd.prog 24 #[.string ⟨l.toArray⟩, .func (.func F) #[] #[]] w fun e w' => e = .returned (.tuple #[.agg #[.int .i64 0, .int .i64 0], .int .i64 2]) ∧ Below w.heap.size w w' := by
  have hmf : ∀ (fn : Fn) (first cap : Array Value) (w : World), (Instr.makeFunc fn first cap).run Tryd.prog w = .ok (.func fn first cap) w := fun _ _ _ _ => rfl
  have HH := Lib.hid H
  have HL : Hid (∀ W, Calls Tryd.prog 18 #[.agg #[.int .i64 m, .int .i64 (s : Int)]] W fun e w' => e = .returned (.agg #[.int .i64 x, .int .i64 (y : Int)]) ∧ Below W.heap.size W w') := by
    intro W
    have := Tryd.Least_any m s hm0 hm1 hs W
    rwa [hl] at this
  have HR := Lib.hid hr
  clear H hr hl
  subst hr0
  go_enter_defers Tryd.func24, Tryd.ntmps24
  go_wp2_with (refine (HH.out (w.heap.size + 1 + 1) _ (boxed_at (by simp))).mono ?_; rintro e w1 ⟨rfl, hb, hk⟩; have st := take_cells hk hb; clear hk hb)
  go_wp2_with (go_at_call 18; refine (HL.out _).mono ?_; rintro e w2 ⟨rfl, hg⟩; have st2 := st.grown hg; clear st hg; obtain ⟨c0, c1, c2, f0, f1, f2, hb, hB⟩ := id st2)
  have st3 := st2.put x (y : Int)
  clear c0 c1 c2 f0 f1 f2 hb hB st2
  generalize World.setCell (World.setCell w2 _ _) _ _ = W3 at st3 ⊢
  obtain ⟨c0, c1, c2, f0, f1, f2, hb, hB⟩ := st3
  go_wp2_with (first | (go_at_call 38; refine (Tryd.end_none _ _ hb.cell).mono ?_; rintro e w3 ⟨rfl, rfl⟩) | (go_at_call 36; refine (Tryd.fits_no HR.out _).mono ?_; rintro e w' ⟨rfl, rfl⟩))
  refine leaves_cons (f := 37) (args := #[.pointer (some ⟨w.heap.size, 0, none⟩), .pointer (some ⟨w.heap.size + 1, 0, none⟩)]) (by simp) (by simp [go_sem]) ?_
  refine (Tryd.catch_panic w.heap.size (w.heap.size + 1) (by omega) _ 2 [] _ _ _ c0 c1 c2 f0 f1 f2).mono ?_
  rintro e u' w'' ⟨rfl, rfl, rfl⟩
  refine ⟨.tuple #[.agg #[.int .i64 0, .int .i64 0], .int .i64 2], by simp [results, Tryd.results24, go_sem, c0, c1, c2], rfl, ?_⟩
  exact (((hB.setCell (by simp) _).setCell (by simp) _).setCell (by simp) _).drew

set_option maxHeartbeats 800000 in
theorem Tryd.take_ok (F : FuncId) (hF : ∀ args W, (callFunc F args).run Tryd.prog W = .ok (.enter F args) W) (l : List UInt8) (m : Int) (s : Nat) (r : List UInt8) (x : Int) (y : Nat) (hl : least s m = (x, y)) (hm0 : -9223372036854775807 ≤ m) (hm1 : m ≤ 9223372036854775807) (hs : s ≤ 6) (hr : fitB x = true) (hr0 : r = [])
    (H : ∀ (b : Nat) (W : World), Boxed W b 61 (.string ⟨l.toArray⟩) → Calls Tryd.prog F #[.pointer (some ⟨b, 0, none⟩)] W fun e w' => e = .returned (.agg #[.int .i64 m, .int .i64 (s : Int)]) ∧ Boxed w' b 61 (.string ⟨r.toArray⟩) ∧ But b W w') (w : World) :
    Calls Tryd.prog 24 #[.string ⟨l.toArray⟩, .func (.func F) #[] #[]] w fun e w' => e = .returned (.tuple #[.agg #[.int .i64 x, .int .i64 (y : Int)], .int .i64 0]) ∧ Below w.heap.size w w' := by
  have hmf : ∀ (fn : Fn) (first cap : Array Value) (w : World), (Instr.makeFunc fn first cap).run Tryd.prog w = .ok (.func fn first cap) w := fun _ _ _ _ => rfl
  have HH := Lib.hid H
  have HL : Hid (∀ W, Calls Tryd.prog 18 #[.agg #[.int .i64 m, .int .i64 (s : Int)]] W fun e w' => e = .returned (.agg #[.int .i64 x, .int .i64 (y : Int)]) ∧ Below W.heap.size W w') := by
    intro W
    have := Tryd.Least_any m s hm0 hm1 hs W
    rwa [hl] at this
  have HR := Lib.hid hr
  clear H hr hl
  subst hr0
  go_enter_defers Tryd.func24, Tryd.ntmps24
  go_wp2_with (refine (HH.out (w.heap.size + 1 + 1) _ (boxed_at (by simp))).mono ?_; rintro e w1 ⟨rfl, hb, hk⟩; have st := take_cells hk hb; clear hk hb)
  go_wp2_with (go_at_call 18; refine (HL.out _).mono ?_; rintro e w2 ⟨rfl, hg⟩; have st2 := st.grown hg; clear st hg; obtain ⟨c0, c1, c2, f0, f1, f2, hb, hB⟩ := id st2)
  have st3 := st2.put x (y : Int)
  clear c0 c1 c2 f0 f1 f2 hb hB st2
  generalize World.setCell (World.setCell w2 _ _) _ _ = W3 at st3 ⊢
  obtain ⟨c0, c1, c2, f0, f1, f2, hb, hB⟩ := st3
  go_wp2_with (first | (go_at_call 38; refine (Tryd.end_none _ _ hb.cell).mono ?_; rintro e w3 ⟨rfl, rfl⟩) | (go_at_call 36; refine (Tryd.fits_yes HR.out _).mono ?_; rintro e w' ⟨rfl, rfl⟩))
  refine leaves_cons (f := 37) (args := #[.pointer (some ⟨w.heap.size, 0, none⟩), .pointer (some ⟨w.heap.size + 1, 0, none⟩)]) (by simp) (by simp [go_sem]) ?_
  refine (Tryd.catch_idle ⟨w.heap.size, 0, none⟩ ⟨w.heap.size + 1, 0, none⟩ _).mono ?_
  rintro e u' w'' ⟨rfl, rfl, rfl⟩
  refine ⟨.tuple #[.agg #[.int .i64 x, .int .i64 (y : Int)], .int .i64 0], by simp [results, Tryd.results24, go_sem, c0, c1, c2], rfl, ?_⟩
  exact ((hB.setCell (by simp) _).setCell (by simp) _).setCell (by simp) _

/-- The text's number, its least form, or the error: what take tells. -/
theorem Tryd.take_any (F : FuncId) (hF : ∀ args W, (callFunc F args).run Tryd.prog W = .ok (.enter F args) W) (l : List UInt8) (o : Option (Int × Nat × List UInt8))
    (ho : ∀ m s r, o = some (m, s, r) → -9223372036854775807 ≤ m ∧ m ≤ 9223372036854775807 ∧ s ≤ 6)
    (H : ∀ (b : Nat) (W : World), Boxed W b 61 (.string ⟨l.toArray⟩) → Calls Tryd.prog F #[.pointer (some ⟨b, 0, none⟩)] W fun e w' => NumPost b o W e w') (w : World) :
    Calls Tryd.prog 24 #[.string ⟨l.toArray⟩, .func (.func F) #[] #[]] w fun e w' => e = .returned (.tuple #[.agg #[.int .i64 (takeN o).1, .int .i64 ((takeN o).2.1 : Int)], .int .i64 (takeN o).2.2]) ∧ Below w.heap.size w w' := by
  match o, H, ho with
  | none, H, _ => exact Tryd.take_none F hF l H w
  | some (m, s, r), H, ho =>
    obtain ⟨h0, h1, h2⟩ := ho m s r rfl
    by_cases hr : r = []
    · by_cases hf : fitB (least s m).1 = true
      · have hT : takeN (some (m, s, r)) = ((least s m).1, (least s m).2, 0) := by simp only [takeN]; rw [if_pos hr, if_pos hf]
        rw [hT]
        exact Tryd.take_ok F hF l m s r _ _ rfl h0 h1 h2 hf hr H w
      · have hT : takeN (some (m, s, r)) = (0, 0, 2) := by simp only [takeN]; rw [if_pos hr, if_neg hf]
        rw [hT]
        exact Tryd.take_full F hF l m s r _ _ rfl h0 h1 h2 hf hr H w
    · have hT : takeN (some (m, s, r)) = (0, 0, 20) := by simp only [takeN]; rw [if_neg hr]
      rw [hT]
      exact Tryd.take_rest F hF l m s r _ _ rfl h0 h1 h2 hr H w
theorem sgn_bd (l : List UInt8) {v B : Int} (h0 : 0 ≤ v) (h1 : v ≤ B) : -B ≤ sgn l * v ∧ sgn l * v ≤ B := by
  rcases sgn_cases l with h | h <;> rw [h] <;> omega
theorem numI_bd (l : List UInt8) : ∀ m s r, numI l = some (m, s, r) → -9223372036854775807 ≤ m ∧ m ≤ 9223372036854775807 ∧ s ≤ 6 := by
  intro m s r h
  unfold numI at h
  split at h
  · rename_i hd
    cases h
    have hv := digs_val (tailIf 45 l) (m := 0) (a := 0) (k := 12) (by omega) (by decide) (by omega)
    have := sgn_bd l hv.1 (B := 1000000000000) (by have := hv.2; simp at this; omega)
    omega
  · cases h
theorem numR_bd (l : List UInt8) : ∀ m s r, numR l = some (m, s, r) → -9223372036854775807 ≤ m ∧ m ≤ 9223372036854775807 ∧ s ≤ 6 := by
  intro m s r h
  unfold numR numT at h
  split at h
  · rename_i hd
    have hv := digs_val (tailIf 45 l) (m := 0) (a := 0) (k := 12) (by omega) (by decide) (by omega)
    split at h
    · split at h
      · rename_i hq
        cases h
        have hv2 := digs_val ((tailIf 45 l).drop (digs (tailIf 45 l)).length).tail (m := valF 0 (digs (tailIf 45 l))) (a := 12) (k := 18) hv.1 hv.2 (by omega)
        have := sgn_bd l hv2.1 (B := 1000000000000000000) (by have := hv2.2; simp at this; omega)
        omega
      · cases h
    · cases h
      have := sgn_bd l hv.1 (B := 1000000000000) (by have := hv.2; simp at this; omega)
      omega
  · cases h

/-- What Int and Read tell of a text. -/
def intN (l : List UInt8) : Int × Nat × Int := takeN (numI l)
def readN (l : List UInt8) : Int × Nat × Int := takeN (numR l)

set_option maxHeartbeats 400000 in
theorem Tryd.Int_any (l : List UInt8) (hl : l.length ≤ 9223372036854775807) (w : World) :
    Calls Tryd.prog 11 #[.string ⟨l.toArray⟩] w fun e w' => e = .returned (.tuple #[.int .i64 (intN l).1, .int .i64 (intN l).2.2]) ∧ Below w.heap.size w w' := by
  have HT : Hid (∀ W, Calls Tryd.prog 24 #[.string ⟨l.toArray⟩, .func (.func 25) #[] #[]] W fun e w' => e = .returned (.tuple #[.agg #[.int .i64 (intN l).1, .int .i64 ((intN l).2.1 : Int)], .int .i64 (intN l).2.2]) ∧ Below W.heap.size W w') :=
    fun W => Tryd.take_any 25 (fun _ _ => by kernel_rfl) l (numI l) (numI_bd l) (fun b W h => Tryd.Int1_any h hl) W
  generalize intN l = x at HT ⊢
  go_enter Tryd.func11, Tryd.ntmps11
  go_wp2_with (go_at_call 24; refine (HT.out _).mono ?_; rintro e w1 ⟨rfl, hb⟩)
  go_ret2
  exact ⟨rfl, hb.alloc hb.size _⟩

set_option maxHeartbeats 400000 in
theorem Tryd.Read_any (l : List UInt8) (hl : l.length ≤ 9223372036854775807) (w : World) :
    Calls Tryd.prog 13 #[.string ⟨l.toArray⟩] w fun e w' => e = .returned (.tuple #[.agg #[.int .i64 (readN l).1, .int .i64 ((readN l).2.1 : Int)], .int .i64 (readN l).2.2]) ∧ Below w.heap.size w w' := by
  have HT : Hid (∀ W, Calls Tryd.prog 24 #[.string ⟨l.toArray⟩, .func (.func 29) #[] #[]] W fun e w' => e = .returned (.tuple #[.agg #[.int .i64 (readN l).1, .int .i64 ((readN l).2.1 : Int)], .int .i64 (readN l).2.2]) ∧ Below W.heap.size W w') :=
    fun W => Tryd.take_any 29 (fun _ _ => by kernel_rfl) l (numR l) (numR_bd l) (fun b W h => Tryd.Read1_any h hl) W
  generalize readN l = x at HT ⊢
  go_enter Tryd.func13, Tryd.ntmps13
  go_wp2_with (go_at_call 24; refine (HT.out _).mono ?_; rintro e w1 ⟨rfl, hb⟩; obtain ⟨hc, hf⟩ := bcell hb; have hz : w.heap.size < w1.heap.size := by have := hb.size; simp at this; omega)
  refine bodyPost_ret (v := .tuple #[.agg #[.int .i64 x.1, .int .i64 (x.2.1 : Int)], .int .i64 x.2.2]) (by simp [results, Tryd.results13, go_sem, hc]) rfl ⟨rfl, ?_⟩
  exact ((((Below.refl _ w).alloc (Nat.le_refl _) _).trans (hb.mono (by simp))).setCell (by simp) _).setCell (by simp) _
#print axioms Tryd.Read_any
#print axioms Tryd.Int_any
end Go.Proofs
