/- slices.Collect and slices.AppendSeq as this program calls them, over an iterator of lines; cursor.Lines. Conditions: a text of at most a million bytes. -/
import Derived.Test.YtokbhkedmfbgjaaLines
import Derived.Maps.AppendAt
namespace Go
open Go.RowKit
theorem RF.appended {T : TypeId → Bool} {W w1 : World} {n₀ B B0 : Nat} {t e : TypeId} {size : Nat} {v v' : Value} {k : Nat} {xs : List Value} {tmp : Obj}
    (hrow : W.ownsRow n₀ e size v k xs) (ht : T t = false) (he : T e = false) (hgrow : (W.alloc tmp).grownBy w1 v.ownBlock) (hv1 : Boxed w1 B t v) : RF T B0 W (w1.setCell ⟨B, 0, none⟩ v') := by
  refine RF.set (RF.grown ((RF.refl W).alloc tmp) hgrow fun j ej o ho => ?_) hv1 ht v'
  rcases (hrow.alloc tmp).2 with ⟨rfl, _⟩ | ⟨g, cap, cur, rfl, _, hgb, _⟩
  · simp [Value.ownBlock] at ej
  · obtain rfl : g = j := by simpa [Value.ownBlock] using ej
    rw [hgb] at ho; cases ho; exact ⟨_, _, _, rfl, he⟩
end Go
namespace Go.Proofs
open Go.RowKit Go.Shelf Go.Cur
attribute [local go_sem] Oper.semAt_some

def lineCells (ps : List (Nat × Nat × Nat)) : List Value := ps.flatMap fun p => [.int .i64 (p.1 : Int), .int .i64 (p.2.1 : Int), .int .i64 (p.2.2 : Int)]
theorem lineCells_snoc (ps : List (Nat × Nat × Nat)) (a b c : Nat) : lineCells (ps ++ [(a, b, c)]) = lineCells ps ++ [.int .i64 (a : Int), .int .i64 (b : Int), .int .i64 (c : Int)] := by simp [lineCells]
theorem take_get {α : Type} {l : List α} {k : Nat} {x : α} (h : l[k]? = some x) : l.take (k + 1) = l.take k ++ [x] := by
  obtain ⟨hk, rfl⟩ := List.getElem?_eq_some_iff.1 h
  exact List.take_succ_eq_append_getElem hk

theorem map_get {α β : Type} {f : α → β} {l : List α} {k : Nat} {x : β} (h : (l.map f)[k]? = some x) : ∃ p, l[k]? = some p ∧ x = f p := by
  rw [List.getElem?_map, Option.map_eq_some_iff] at h
  obtain ⟨p, h1, h2⟩ := h
  exact ⟨p, h1, h2.symm⟩
theorem cells_new (W : World) (c : Array Value) (t : TypeId) : ∀ (j : Nat) (u : Value), c.toList[j]? = some u → (W.alloc (.cells c t)).cell? ((⟨W.heap.size, 0, none⟩ : Addr).add j) = some u := by
  intro j u h
  have e := World.alloc_heap_new W (.cells c t)
  have hb : ((⟨W.heap.size, 0, none⟩ : Addr).add j) = ⟨W.heap.size, j, none⟩ := by
    unfold Addr.add
    split
    · rename_i h0; rw [h0]
    · simp
  rw [hb]
  unfold World.cell?
  simp only [e]
  simpa using h

theorem Try.info31 : (Try.prog.info? 31).map (fun i => (i.zero, i.size, i.bytes)) = some (some (.agg #[.int .i64 0, .int .i64 0, .int .i64 0]), 3, 24) := by kernel_rfl

set_option maxRecDepth 100000 in
set_option maxHeartbeats 1000000 in
theorem Try.AppendSeq_calls (ps : List (Nat × Nat × Nat)) (hlen : ps.length ≤ 2000000) (gf : Nat) (lb : Array Value) (eg : ∀ args w, (callFunc gf args).run Try.prog w = .ok (.enter gf args) w) (w : World)
    (hseq : Seq stillT Try.prog gf lb (ps.map fun p => #[lineV p]) w) :
    Calls Try.prog 26 #[.slice none 0 0, .func (.func gf) #[] lb] w fun e w' => ∃ v, e = .returned v ∧ w'.ownsRow w.heap.size 31 3 v ps.length (lineCells ps) ∧ Below w.heap.size w w' := by
  obtain ⟨i0, hi, hz0, hz1, hz2⟩ := info_parts Try.info31
  have hfn : ∀ f, Fence.wide.fn f := fun _ => trivial
  have hdp : Fence.wide.depth = none := rfl
  refine (callsIn_wide (n := 0)).1 (callsIn_of_wp_marks Try.func26 rfl trivial ?_ rfl)
  simp only [Try.ntmps26, List.size_toArray, List.length_cons, List.length_nil, Nat.reduceAdd, Nat.reduceSub, Array.replicate_succ, Array.replicate_zero, List.push_toArray, List.append_toArray, List.nil_append, List.cons_append]
  gi_wp2
  obtain ⟨V, hV⟩ : ∃ V, V = w.alloc (.cells #[.slice none 0 0] 23) := ⟨_, rfl⟩
  have hVs : V.heap.size = w.heap.size + 1 := by rw [hV]; simp
  have b0 : Boxed V w.heap.size 23 (.slice none 0 0) := by rw [hV]; exact Boxed.new w 23 _
  have hB : Below w.heap.size w V := by rw [hV]; exact (Below.refl _ w).alloc (Nat.le_refl _) _
  rw [← hV]
  clear hV
  refine range_seq (gf := gf) (lb := lb) rfl eg (hseq.later hB) (Below.refl _ _) (fun k x h => by obtain ⟨p, _, rfl⟩ := map_get h; rfl)
    (fun k W => ∃ v, Boxed W w.heap.size 23 v ∧ W.ownsRow w.heap.size 31 3 v k (lineCells (ps.take k)) ∧ k ≤ ps.length ∧ Below w.heap.size w W)
    (fun _ _ => False)
    (fun k X Y row h hg hr => by
      obtain ⟨v, h1, h2, h3, h4⟩ := h
      refine ⟨v, h1.own hg hr, h2.kept hg ?_, h3, h4.own (Nat.le_refl _) hg (by omega) hr⟩
      rcases h2.2 with ⟨rfl, _⟩ | ⟨g, cap, cur, rfl, _, hgb, _⟩
      · exact .inl rfl
      · refine .inr fun e' => ?_
        obtain ⟨_, o, ho, hc⟩ := hr g (by simpa [Value.ownBlock] using e'.symm)
        rw [hgb] at ho; cases ho; cases hc)
    (fun _ _ _ _ _ h _ _ => h.elim)
    ⟨_, b0, World.ownsRow_nil _ _ _ _, Nat.zero_le _, hB⟩
    (fun x a' W => ∃ a b c Bx, x = #[.agg #[.int .i64 (a : Nat), .int .i64 (b : Nat), .int .i64 (c : Nat)]] ∧ w.heap.size < Bx ∧ W.heap[Bx]? = some (.cells #[.int .i64 (a : Nat), .int .i64 (b : Nat), .int .i64 (c : Nat)] 31 (0, 0)) ∧
      a' = { tmps := #[.slice none 0 0, .func (.func gf) #[] lb, .pointer (some ⟨w.heap.size, 0, none⟩), undef, .slice none 0 0, .pointer (some ⟨Bx, 0, none⟩), .func (.func gf) #[] lb, x[0]!, undef, undef, undef, undef, undef], defers := [] })
    (fun x a' _ X Y row h hg hr => by
      obtain ⟨a, b, c, Bx, rfl, h1, h2, rfl⟩ := h
      refine ⟨a, b, c, Bx, rfl, h1, (hg.block Bx (Array.getElem?_eq_some_iff.1 h2).1 (fun e => ?_)).trans h2, rfl⟩
      obtain ⟨_, o, ho, hc⟩ := hr Bx e.symm
      rw [h2] at ho; cases ho; cases hc) ?assign ?body ?done ?stop
  case assign =>
    intro l k x W K hx hi hK
    obtain ⟨⟨a, b, c⟩, hp, rfl⟩ := map_get hx
    obtain ⟨v, h1, h2, h3, h4⟩ := hi
    clear hx
    simp only [lineV]
    gi_wp2
    exact hK _ _ ((RF.refl _).alloc _) ⟨v, h1.alloc _, h2.alloc _, h3, h4.alloc h4.size _⟩ ⟨a, b, c, W.heap.size, rfl, h1.lt, World.alloc_heap_new W _, rfl⟩
  case body =>
    rintro l k x a' W hx0 ⟨v, h1, h2, h3, h4⟩ ⟨a, b, c, Bx, rfl, hBx, hbx, rfl⟩
    obtain ⟨⟨a1, b1, c1⟩, hp, he⟩ := map_get hx0
    have he' : a = a1 ∧ b = b1 ∧ c = c1 := by simpa [lineV, Int.natCast_inj] using he
    obtain ⟨rfl, rfl, rfl⟩ := he'
    clear he hx0
    have hcv := h1.cell
    have hfv := h1.frozen
    have x0 : W.cell? ⟨Bx, 0, none⟩ = some (.int .i64 (a : Nat)) := by simp [World.cell?, hbx]
    have x1 : W.cell? ⟨Bx, 1, none⟩ = some (.int .i64 (b : Nat)) := by simp [World.cell?, hbx]
    have x2 : W.cell? ⟨Bx, 2, none⟩ = some (.int .i64 (c : Nat)) := by simp [World.cell?, hbx]
    have hkl : k < ps.length := (List.getElem?_eq_some_iff.1 hp).1
    have hpk := Lib.hid (take_get hp)
    have hml : k + 1 ≤ maxLen := by unfold maxLen; omega
    have hml2 : (k + 1) * 24 ≤ 140737488355328 := by omega
    have hsz : w.heap.size ≤ W.heap.size := h4.size
    clear hp hlen
    simp only [List.getElem!_toArray, List.getElem!_cons_zero]
    gi_wp2_with (gi_at_builtin; refine wpListIn_append_own _ rfl _ _ 23 rfl w.heap.size 31 i0 (.agg #[.int .i64 0, .int .i64 0, .int .i64 0]) 3 24 Try.underlying23 hi hz0 hz1 hz2 rfl (by decide) _ _ _ rfl (h2.alloc _) ⟨W.heap.size, 0, none⟩ 1 1 [.int .i64 (a : Nat), .int .i64 (b : Nat), .int .i64 (c : Nat)] rfl rfl (cells_new W #[.int .i64 (a : Nat), .int .i64 (b : Nat), .int .i64 (c : Nat)] 31) (by simp [Value.oneCell']) hml hml2 (by simp; omega) ?_; intro v' w1 hown' hgrow _; obtain ⟨g', cap', rfl⟩ := ownsRow_succ hown'; obtain ⟨hv1, hv2, hr2, hk2, hb2⟩ := h1.appended (by decide) h2 h4.size (Nat.le_refl _) hown' hgrow; have hrf := RF.appended (T := stillT) (B0 := V.heap.size) (v' := .slice (some ⟨g', 0, none⟩) (k + 1) cap') h2 rfl rfl hgrow hv1; have hc1 := hv1.cell; have hf1 := hv1.frozen)
    exact ⟨hrf, _, hv2, by rw [hpk.out, lineCells_snoc]; exact hr2, by omega, h4.trans hb2⟩
  case done =>
    rintro D W hD ⟨v, h1, h2, h3, h4⟩ hK
    have hcv := h1.cell
    rw [List.length_map, List.take_length] at h2
    have H2 := Lib.hid h2
    clear h2
    gi_wp2
    refine ⟨by simp, .inl ⟨_, _, rfl, run_takeDeferred hK, ?_⟩⟩
    exact ⟨_, results_tmp rfl _ _ _, v, rfl, ownsRow_putObj H2.out _ hK rfl, h4.put (Nat.le_refl _) (by omega)⟩
  case stop => exact fun _ _ _ _ h _ => h.elim

theorem enters27 : ∀ args w, (callFunc 27 args).run Try.prog w = .ok (.enter 27 args) w := enters_of Try.func27 (by kernel_rfl) rfl

set_option maxHeartbeats 400000 in
theorem Try.Collect_calls (ps : List (Nat × Nat × Nat)) (hlen : ps.length ≤ 2000000) (lb : Array Value) (w : World)
    (hseq : Seq stillT Try.prog 27 lb (ps.map fun p => #[lineV p]) w) :
    Calls Try.prog 22 #[.func (.func 27) #[] lb] w fun e w' => ∃ v, e = .returned v ∧ w'.ownsRow w.heap.size 31 3 v ps.length (lineCells ps) ∧ Below w.heap.size w w' := by
  have H := Lib.hid (Try.AppendSeq_calls ps hlen 27 lb enters27 w hseq)
  clear hseq hlen
  go_enter Try.func22, Try.ntmps22
  go_wp2_with (go_at_call 26; refine H.out.mono ?_; rintro e w' ⟨v, rfl, h1, h2⟩)
  go_ret
  exact ⟨v, rfl, h1, h2⟩

theorem spans_len' (s : ByteArray) : (spans s.data.toList).length ≤ s.size + 1 := by
  have := spans_len s.data.toList 0 0
  simpa [spans] using this
theorem lines_len (s : ByteArray) : (lines s.data.toList).length ≤ s.size + 1 := by
  have h1 := spans_len' s
  have h2 : (lines s.data.toList).length ≤ (spans s.data.toList).length := by simp only [lines, List.length_map]; exact (List.takeWhile_sublist _).length_le
  omega

set_option maxHeartbeats 400000 in
theorem Try.Lines_calls (s : ByteArray) (w : World) (hs : s.size ≤ 1000000) :
    Calls Try.prog 10 #[.string s] w fun e w' => ∃ v, e = .returned v ∧ w'.ownsRow w.heap.size 31 3 v (lines s.data.toList).length (lineCells (lines s.data.toList)) ∧ Below w.heap.size w w' := by
  have hl := lines_len s
  have H := Lib.hid (Try.Collect_calls (lines s.data.toList) (by omega) #[.pointer (some ⟨w.heap.size, 0, none⟩)] (w.alloc (.cells #[.string s] 9))
    (Try.lines1_seq w.heap.size s _ hs (by simp) (Boxed.new w 9 _)))
  clear hl
  go_enter Try.func10, Try.ntmps10
  go_wp2_with (first | (go_at_call 23; refine (Try.lines_calls _ _).mono ?_; rintro e w' ⟨rfl, rfl⟩) | (go_at_call 22; refine H.out.mono ?_; rintro e w' ⟨v, rfl, h1, h2⟩))
  go_ret
  refine ⟨v, rfl, ⟨h1.1, ?_⟩, (((Below.refl _ w).alloc (Nat.le_refl _) _).trans (h2.mono (by simp)))⟩
  rcases h1.2 with h | ⟨g, cap, cur, h3, h4, h5⟩
  · exact .inl h
  · exact .inr ⟨g, cap, cur, h3, by simp at h4; omega, h5⟩
#print axioms Try.Lines_calls
end Go.Proofs
