/- cursor.Rows of this program: the lines that are not blank. Conditions: a text of at most a million bytes. -/
import Derived.Test.YtokbhkedmfbgjaaCollect
import Derived.Test.YtokbhkedmfbgjaaBlank
namespace Go.Cur
def bare (l : List UInt8) (p : Nat × Nat × Nat) : Bool := !blankL (cutL l p.1 p.2.1)
def rowsOf (l : List UInt8) : List (Nat × Nat × Nat) := (lines l).filter (bare l)
theorem lines_get {l : List UInt8} {k a b c : Nat} (h : (lines l)[k]? = some (a, b, c)) : a ≤ b ∧ b ≤ l.length ∧ b ≤ c ∧ c ≤ l.length + 1 := by
  simp only [lines, List.getElem?_map, Option.map_eq_some_iff] at h
  obtain ⟨⟨x, y⟩, h1, h2⟩ := h
  have h3 : (x, y) ∈ spans l := (List.takeWhile_sublist _).subset (List.mem_of_getElem? h1)
  have h4 := spans_mem (Nat.le_refl 0) (x, y) h3
  simp only [lineAt] at h2
  simp only at h4
  split at h2
  · simp only [Prod.mk.injEq] at h2
    omega
  · split at h2 <;> (simp only [Prod.mk.injEq] at h2; omega)
theorem rows_step {l : List UInt8} {k : Nat} {p : Nat × Nat × Nat} (h : (lines l)[k]? = some p) : ((lines l).take (k + 1)).filter (bare l) = ((lines l).take k).filter (bare l) ++ if bare l p then [p] else [] := by
  obtain ⟨hk, rfl⟩ := List.getElem?_eq_some_iff.1 h
  rw [List.take_succ_eq_append_getElem hk, List.filter_append]
  cases hb : bare l (lines l)[k] <;> simp [hb]
end Go.Cur
namespace Go
open Go.RowKit
theorem ownsRow_below {w w' : World} {base : Nat} {e : TypeId} {size : Nat} {v : Value} {k : Nat} {xs : List Value} {n₀ : Nat} (h : w.ownsRow base e size v k xs) (hb : Below n₀ w w') (hn : w.heap.size ≤ n₀) : w'.ownsRow base e size v k xs :=
  h.kept (hb.grownBy hn) (by cases v.ownBlock <;> simp)
theorem ownsRow_own {X Y : World} {base : Nat} {e : TypeId} {size : Nat} {v : Value} {k : Nat} {xs : List Value} (h2 : X.ownsRow base e size v k xs) {row : Option Nat} (hg : X.grownBy Y row) {B' : Nat} (hr : ∀ r, row = some r → B' ≤ r ∧ ∃ o : Obj, X.heap[r]? = some o ∧ o.isCells = false) : Y.ownsRow base e size v k xs := by
  refine h2.kept hg ?_
  rcases h2.2 with ⟨rfl, _⟩ | ⟨g, cap, cur, rfl, _, hgb, _⟩
  · exact .inl rfl
  · refine .inr fun e' => ?_
    obtain ⟨_, o, ho, hc⟩ := hr g (by simpa [Value.ownBlock] using e'.symm)
    rw [hgb] at ho; cases ho; cases hc
end Go
namespace Go.Proofs
open Go.RowKit Go.Shelf Go.Cur
attribute [local go_sem] Oper.semAt_some

set_option maxRecDepth 100000 in
set_option maxHeartbeats 1000000 in
theorem Try.Rows_calls (s : ByteArray) (w : World) (hs : s.size ≤ 1000000) :
    Calls Try.prog 14 #[.string s] w fun e w' => ∃ v, e = .returned v ∧ w'.ownsRow w.heap.size 31 3 v (rowsOf s.data.toList).length (lineCells (rowsOf s.data.toList)) ∧ Below w.heap.size w w' := by
  obtain ⟨i0, hi, hz0, hz1, hz2⟩ := info_parts Try.info31
  have hfn : ∀ f, Fence.wide.fn f := fun _ => trivial
  have hdp : Fence.wide.depth = none := rfl
  refine (callsIn_wide (n := 0)).1 (callsIn_of_wp_marks Try.func14 rfl trivial ?_ rfl)
  simp only [Try.ntmps14, List.size_toArray, List.length_cons, List.length_nil, Nat.reduceAdd, Nat.reduceSub, Array.replicate_succ, Array.replicate_zero, List.push_toArray, List.append_toArray, List.nil_append, List.cons_append]
  gi_wp2_with (gi_at_call 23; refine (callsIn_wide.2 (Try.lines_calls _ _)).mono ?_; rintro e w' ⟨rfl, rfl⟩)
  obtain ⟨V, hV⟩ : ∃ V, V = ((w.alloc (.cells #[.string s] 9)).alloc (.cells #[.slice none 0 0] 23)).alloc (.cells #[.string s] 9) := ⟨_, rfl⟩
  have hVs : V.heap.size = w.heap.size + 1 + 1 + 1 := by rw [hV]; simp
  have b0 : Boxed V w.heap.size 9 (.string s) := by rw [hV]; exact ((Boxed.new w 9 _).alloc _).alloc _
  have b1 : Boxed V (w.heap.size + 1) 23 (.slice none 0 0) := by rw [hV]; exact (Boxed.at 23 _ (by simp)).alloc _
  have b2 : Boxed V (w.heap.size + 1 + 1) 9 (.string s) := by rw [hV]; exact Boxed.at 9 _ (by simp)
  have hB : Below w.heap.size w V := by rw [hV]; exact (((Below.refl _ w).alloc (Nat.le_refl _) _).alloc (by simp) _).alloc (by simp; omega) _
  rw [← hV]
  clear hV
  refine range_seq (gf := 27) (lb := #[.pointer (some ⟨w.heap.size + 1 + 1, 0, none⟩)]) rfl enters27 (Try.lines1_seq _ s V hs (by omega) b2) (Below.refl _ _) (fun k x h => by obtain ⟨p, _, rfl⟩ := map_get h; rfl)
    (fun k W => ∃ v, Boxed W w.heap.size 9 (.string s) ∧ Boxed W (w.heap.size + 1) 23 v ∧ W.ownsRow w.heap.size 31 3 v (((lines s.data.toList).take k).filter (bare s.data.toList)).length (lineCells (((lines s.data.toList).take k).filter (bare s.data.toList))) ∧ Below w.heap.size w W)
    (fun _ _ => False)
    (fun k X Y row h hg hr => by
      obtain ⟨v, h0, h1, h2, h4⟩ := h
      exact ⟨v, h0.own hg hr, h1.own hg hr, ownsRow_own h2 hg hr, h4.own (Nat.le_refl _) hg (by omega) hr⟩)
    (fun _ _ _ _ _ h _ _ => h.elim)
    ⟨_, b0, b1, by simpa [lineCells] using World.ownsRow_nil V w.heap.size 31 3, hB⟩
    (fun x a' W => ∃ a b c Bx, x = #[.agg #[.int .i64 (a : Nat), .int .i64 (b : Nat), .int .i64 (c : Nat)]] ∧ w.heap.size + 1 < Bx ∧ W.heap[Bx]? = some (.cells #[.int .i64 (a : Nat), .int .i64 (b : Nat), .int .i64 (c : Nat)] 31 (0, 0)) ∧
      a' = { tmps := #[.string s, .pointer (some ⟨w.heap.size, 0, none⟩), .slice none 0 0, .pointer (some ⟨w.heap.size + 1, 0, none⟩), .pointer (some ⟨Bx, 0, none⟩), .string s, .func (.func 27) #[] #[.pointer (some ⟨w.heap.size + 1 + 1, 0, none⟩)], x[0]!, undef, undef, undef, undef, undef, undef, undef, undef, undef], defers := [] })
    (fun x a' _ X Y row h hg hr => by
      obtain ⟨a, b, c, Bx, rfl, h1, h2, rfl⟩ := h
      refine ⟨a, b, c, Bx, rfl, h1, (hg.block Bx (Array.getElem?_eq_some_iff.1 h2).1 (fun e => ?_)).trans h2, rfl⟩
      obtain ⟨_, o, ho, hc⟩ := hr Bx e.symm
      rw [h2] at ho; cases ho; cases hc) ?assign ?body ?done ?stop
  case assign =>
    intro l k x W K hx hi hK
    obtain ⟨⟨a, b, c⟩, hp, rfl⟩ := map_get hx
    obtain ⟨v, h0, h1, h2, h4⟩ := hi
    clear hx
    simp only [lineV]
    gi_wp2
    exact hK _ _ ((RF.refl _).alloc _) ⟨v, h0.alloc _, h1.alloc _, h2.alloc _, h4.alloc h4.size _⟩ ⟨a, b, c, W.heap.size, rfl, h1.lt, World.alloc_heap_new W _, rfl⟩
  case body =>
    rintro l k x a' W hx0 ⟨v, h0, h1, h2, h4⟩ ⟨a, b, c, Bx, rfl, hBx, hbx, rfl⟩
    obtain ⟨⟨a1, b1, c1⟩, hp, he⟩ := map_get hx0
    have he' : a = a1 ∧ b = b1 ∧ c = c1 := by simpa [lineV, Int.natCast_inj] using he
    obtain ⟨rfl, rfl, rfl⟩ := he'
    clear he hx0
    have hcs := h0.cell
    have hcv := h1.cell
    have x0 : W.cell? ⟨Bx, 0, none⟩ = some (.int .i64 (a : Nat)) := by simp [World.cell?, hbx]
    have x1 : W.cell? ⟨Bx, 1, none⟩ = some (.int .i64 (b : Nat)) := by simp [World.cell?, hbx]
    have x2 : W.cell? ⟨Bx, 2, none⟩ = some (.int .i64 (c : Nat)) := by simp [World.cell?, hbx]
    obtain ⟨hab, hbl, _, _⟩ := lines_get hp
    have hbl' : b ≤ s.size := by simpa using hbl
    have hbxl : Bx < W.heap.size := (Array.getElem?_eq_some_iff.1 hbx).1
    have hsz : w.heap.size ≤ W.heap.size := h4.size
    have hstep := rows_step hp
    have hln := lines_len s
    have hlt : (((lines s.data.toList).take k).filter (bare s.data.toList)).length ≤ s.size + 1 := by
      have h1 := List.length_filter_le (bare s.data.toList) ((lines s.data.toList).take k)
      have h2 := List.length_take_le k (lines s.data.toList)
      have h3 : ((lines s.data.toList).take k).length ≤ (lines s.data.toList).length := by rw [List.length_take]; omega
      omega
    have hcall := fun w1 : World => Try.Blank_calls s a b c w1 hab hbl'
    cases hbk : blankL (cutL s.data.toList a b) with
    | true =>
      rw [hbk] at hcall
      have hbare : bare s.data.toList (a, b, c) = false := by simp [bare, hbk]
      rw [if_neg (by rw [hbare]; simp), List.append_nil] at hstep
      have HC := Lib.hid hcall
      have HS := Lib.hid hstep
      clear hcall hstep hbare hbk hp hlt hln hab hbl
      simp only [List.getElem!_toArray, List.getElem!_cons_zero]
      gi_wp2_with (gi_at_call 16; refine (CallsIn.inRound l (callsIn_wide.2 (HC.out _))).mono ?_; rintro e w1 ⟨rfl, hb1⟩)
      exact ⟨(RF.refl _).below hb1 (Nat.le_refl _), v, h0.below hb1 h0.lt, h1.below hb1 h1.lt, by rw [HS.out]; exact ownsRow_below h2 hb1 (Nat.le_refl _), h4.trans (hb1.mono hsz)⟩
    | false =>
      rw [hbk] at hcall
      have hbare : bare s.data.toList (a, b, c) = true := by simp [bare, hbk]
      rw [if_pos hbare] at hstep
      have HC := Lib.hid hcall
      have HS := Lib.hid hstep
      clear hcall hstep hbare hbk hp hln hab hbl
      generalize ((lines s.data.toList).take k).filter (bare s.data.toList) = q at *
      have hml : q.length + 1 ≤ maxLen := by unfold maxLen; omega
      have hml2 : (q.length + 1) * 24 ≤ 140737488355328 := by omega
      clear hlt
      simp only [List.getElem!_toArray, List.getElem!_cons_zero]
      gi_wp2_with (first | (gi_at_call 16; refine (CallsIn.inRound l (callsIn_wide.2 (HC.out _))).mono ?_; rintro e w1 ⟨rfl, hb1⟩; have y1 := h1.below hb1 h1.lt; have y2 := ownsRow_below h2 hb1 (Nat.le_refl _); have y4 := h4.trans (hb1.mono hsz); have ycv := y1.cell; have z0 := (hb1.cell (p := ⟨Bx, 0, none⟩) hbxl).trans x0; have z1 := (hb1.cell (p := ⟨Bx, 1, none⟩) hbxl).trans x1; have z2 := (hb1.cell (p := ⟨Bx, 2, none⟩) hbxl).trans x2) | (gi_at_builtin; refine wpListIn_append_own _ rfl _ _ 23 rfl w.heap.size 31 i0 (.agg #[.int .i64 0, .int .i64 0, .int .i64 0]) 3 24 Try.underlying23 hi hz0 hz1 hz2 rfl (by decide) _ _ _ rfl (y2.alloc _) ⟨w1.heap.size, 0, none⟩ 1 1 [.int .i64 (a : Nat), .int .i64 (b : Nat), .int .i64 (c : Nat)] rfl rfl (cells_new w1 #[.int .i64 (a : Nat), .int .i64 (b : Nat), .int .i64 (c : Nat)] 31) (by simp [Value.oneCell']) hml hml2 (by have := y4.size; simp; omega) ?_; intro v' w2 hown' hgrow _; obtain ⟨g', cap', rfl⟩ := ownsRow_succ hown'; obtain ⟨hv1, hv2, hr2, hk2, hb2⟩ := y1.appended (by decide) y2 y4.size (by omega) hown' hgrow; have hrf := RF.appended (T := stillT) (B0 := V.heap.size) (v' := .slice (some ⟨g', 0, none⟩) (q.length + 1) cap') y2 rfl rfl hgrow hv1; have hc1 := hv1.cell; have hf1 := hv1.frozen))
      have hrf2 := ((RF.refl W).below hb1 (Nat.le_refl _)).trans hrf
      exact ⟨hrf2, _, hrf2.boxed h0 rfl, hv2, by rw [HS.out, lineCells_snoc, List.length_append]; exact hr2, y4.trans hb2⟩
  case done =>
    rintro D W hD ⟨v, h0, h1, h2, h4⟩ hK
    have hcv := h1.cell
    rw [linesV, List.length_map, List.take_length] at h2
    have H2 := Lib.hid h2
    clear h2
    gi_wp2
    refine ⟨by simp, .inl ⟨_, _, rfl, run_takeDeferred hK, ?_⟩⟩
    exact ⟨_, results_tmp rfl _ _ _, v, rfl, ownsRow_putObj H2.out _ hK rfl, h4.put (Nat.le_refl _) (by omega)⟩
  case stop => exact fun _ _ _ _ h _ => h.elim
#print axioms Try.Rows_calls
end Go.Proofs
