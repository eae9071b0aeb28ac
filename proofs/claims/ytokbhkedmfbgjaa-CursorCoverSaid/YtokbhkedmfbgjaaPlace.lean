/- cursor.Place of this program, in plain words over the parts of a text. Conditions: a text of at most a million bytes. -/
import Derived.Test.YtokbhkedmfbgjaaWhere
namespace Go.Proofs
open Go.RowKit Go.Shelf Go.Cur
attribute [local go_sem] Oper.semAt_some

set_option maxHeartbeats 400000 in
theorem Try.Place_neg (s : ByteArray) (i c : Int) (w : World) (h0 : c < 1) :
    Calls Try.prog 20 #[.string s, .int .i64 i, .int .i64 c] w fun e w' => e = .returned (.tuple #[.int .i64 0, .int .i64 10]) ∧ Below w.heap.size w w' := by
  go_enter Try.func20, Try.ntmps20
  go_wp2
  refine bodyPost_ret (v := .tuple #[.int .i64 0, .int .i64 10]) (by simp [results, Try.results20, go_sem]) rfl ⟨rfl, ?_⟩
  exact ((((Below.refl _ w).alloc (Nat.le_refl _) _).alloc (by simp) _).alloc (by simp; omega) _).alloc (by simp; omega) _

set_option maxRecDepth 100000 in
set_option maxHeartbeats 1000000 in
theorem Try.Place_calls (s : ByteArray) (i c : Int) (w : World) (hs : s.size ≤ 1000000) (h0 : 1 ≤ c) (h9 : c ≤ 9223372036854775807) :
    Calls Try.prog 20 #[.string s, .int .i64 i, .int .i64 c] w fun e w' => e = .returned (.tuple #[.int .i64 (placeL (spans s.data.toList) i c 0).1, .int .i64 (placeL (spans s.data.toList) i c 0).2]) ∧ Below w.heap.size w w' := by
  have hd : decide (c < 1) = false := decide_eq_false (by omega)
  refine (callsIn_wide (n := 0)).1 (callsIn_of_wp_marks Try.func20 rfl trivial ?_ rfl)
  simp only [Try.ntmps20, List.size_toArray, List.length_cons, List.length_nil, Nat.reduceAdd, Nat.reduceSub, Array.replicate_succ, Array.replicate_zero, List.push_toArray, List.append_toArray, List.nil_append, List.cons_append]
  gi_wp2_with (refine ⟨trivial, rfl, ?_⟩; gi_at_call 25; refine (callsIn_wide.2 (Try.spans_calls _ _)).mono ?_; rintro e w' ⟨rfl, rfl⟩)
  obtain ⟨V, hV⟩ : ∃ V, V = (((((w.alloc (Obj.cells #[Value.int IntKind.i64 i] 3)).alloc (Obj.cells #[Value.int IntKind.i64 c] 3)).alloc (Obj.cells #[Value.int IntKind.i64 0] 3)).alloc (Obj.cells #[Value.int IntKind.i64 0] 35)).alloc (Obj.cells #[Value.int IntKind.i64 0] 3)).alloc (.cells #[.string s] 9) := ⟨_, rfl⟩
  have hVs : V.heap.size = w.heap.size + 1 + 1 + 1 + 1 + 1 + 1 := by rw [hV]; simp
  have b0 : Boxed V w.heap.size 3 (.int .i64 i) := by rw [hV]; exact (((((Boxed.new w 3 _).alloc _).alloc _).alloc _).alloc _).alloc _
  have b1 : Boxed V (w.heap.size + 1) 3 (.int .i64 c) := by rw [hV]; exact ((((Boxed.at 3 _ (by simp)).alloc _).alloc _).alloc _).alloc _
  have b2 : Boxed V (w.heap.size + 1 + 1) 3 (.int .i64 0) := by rw [hV]; exact (((Boxed.at 3 _ (by simp)).alloc _).alloc _).alloc _
  have b3 : Boxed V (w.heap.size + 1 + 1 + 1) 35 (.int .i64 0) := by rw [hV]; exact ((Boxed.at 35 _ (by simp)).alloc _).alloc _
  have b4 : Boxed V (w.heap.size + 1 + 1 + 1 + 1) 3 (.int .i64 0) := by rw [hV]; exact (Boxed.at 3 _ (by simp)).alloc _
  have b5 : Boxed V (w.heap.size + 1 + 1 + 1 + 1 + 1) 9 (.string s) := by rw [hV]; exact Boxed.at 9 _ (by simp)
  have hB : Below w.heap.size w V := by
    rw [hV]; exact ((((((Below.refl _ w).alloc (Nat.le_refl _) _).alloc (by simp) _).alloc (by simp; omega) _).alloc (by simp; omega) _).alloc (by simp; omega) _).alloc (by simp; omega) _
  rw [← hV]
  clear hV
  refine range_seq (gf := 29) (lb := #[.pointer (some ⟨w.heap.size + 1 + 1 + 1 + 1 + 1, 0, none⟩)]) rfl (enters_of Try.func29 (by kernel_rfl) rfl)
    (Try.spans1_seq _ s V (by unfold maxLen; omega) (by omega) b5) (Below.refl _ _) (fun k x h => by obtain ⟨a, b, rfl, _⟩ := spansV_get h; rfl)
    (fun k W => Boxed W w.heap.size 3 (.int .i64 i) ∧ Boxed W (w.heap.size + 1) 3 (.int .i64 c) ∧ Boxed W (w.heap.size + 1 + 1) 3 (.int .i64 0) ∧ Boxed W (w.heap.size + 1 + 1 + 1) 35 (.int .i64 0) ∧ Boxed W (w.heap.size + 1 + 1 + 1 + 1) 3 (.int .i64 (k : Nat)) ∧ Below w.heap.size w W ∧ placeL (spans s.data.toList) i c 0 = placeL ((spans s.data.toList).drop k) i c k)
    (fun r W => r = .ret ∧ Boxed W (w.heap.size + 1 + 1) 3 (.int .i64 (placeL (spans s.data.toList) i c 0).1) ∧ Boxed W (w.heap.size + 1 + 1 + 1) 35 (.int .i64 (placeL (spans s.data.toList) i c 0).2) ∧ Below w.heap.size w W)
    (fun k X Y row h hg hr => ⟨h.1.own hg hr, h.2.1.own hg hr, h.2.2.1.own hg hr, h.2.2.2.1.own hg hr, h.2.2.2.2.1.own hg hr, h.2.2.2.2.2.1.own (Nat.le_refl _) hg (by omega) hr, h.2.2.2.2.2.2⟩)
    (fun c _ X Y row h hg hr => ⟨h.1, h.2.1.own hg hr, h.2.2.1.own hg hr, h.2.2.2.own (Nat.le_refl _) hg (by omega) hr⟩)
    ⟨b0, b1, b2, b3, b4, hB, rfl⟩
    (fun x a' _ => a' = { tmps := #[.string s, .int .i64 i, .int .i64 c, undef, .pointer (some ⟨w.heap.size, 0, none⟩), .pointer (some ⟨w.heap.size + 1, 0, none⟩), .pointer (some ⟨w.heap.size + 1 + 1, 0, none⟩), .pointer (some ⟨w.heap.size + 1 + 1 + 1, 0, none⟩), .pointer (some ⟨w.heap.size + 1 + 1 + 1 + 1, 0, none⟩), x[0]!, x[1]!, .int .i64 c, .bool false, .string s, .func (.func 29) #[] #[.pointer (some ⟨w.heap.size + 1 + 1 + 1 + 1 + 1, 0, none⟩)], x[0]!, x[1]!, undef, undef, undef, undef, undef, undef, undef, undef, undef, undef, undef, undef, undef, undef, undef, undef, undef], defers := [] })
    (fun _ _ _ _ _ _ h _ _ => h) ?assign ?body ?done ?stop
  case assign =>
    intro l k x W K hx hi hK
    obtain ⟨a, b, rfl, hx⟩ := spansV_get hx
    gi_wp2
    exact hK _ _ (RF.refl _) hi rfl
  case body =>
    rintro l k x a' W hx0 ⟨c0, c1, c2, c3, c4, hB1, hw⟩ rfl
    obtain ⟨a, b, rfl, hx⟩ := spansV_get hx0
    clear hx0
    have hc0 := c0.cell
    have hc4 := c4.cell
    have hf4 := c4.frozen
    have hc1 := c1.cell
    have hc2 := c2.cell
    have hf2 := c2.frozen
    have hc3 := c3.cell
    have hf3 := c3.frozen
    obtain ⟨hab, hbl, hkl⟩ := spans_get hx
    simp only [Array.length_toList, show s.data.size = s.size from rfl] at hbl hkl
    rw [placeL_drop hx] at hw
    have hset : RF stillT V.heap.size W (W.setCell ⟨w.heap.size + 1 + 1 + 1 + 1, 0, none⟩ (.int .i64 ((k : Int) + 1))) := (RF.refl _).set c4 rfl _
    have d0 := c0.other (B' := w.heap.size + 1 + 1 + 1 + 1) (by omega) (.int .i64 ((k : Int) + 1))
    have d1 := c1.other (B' := w.heap.size + 1 + 1 + 1 + 1) (by omega) (.int .i64 ((k : Int) + 1))
    have d2 := c2.other (B' := w.heap.size + 1 + 1 + 1 + 1) (by omega) (.int .i64 ((k : Int) + 1))
    have d3 := c3.other (B' := w.heap.size + 1 + 1 + 1 + 1) (by omega) (.int .i64 ((k : Int) + 1))
    have d4 := c4.set (.int .i64 ((k : Int) + 1))
    have hB2 := hB1.setCell (p := ⟨w.heap.size + 1 + 1 + 1 + 1, 0, none⟩) (by simp; omega) (.int .i64 ((k : Int) + 1))
    by_cases hki : (k : Int) + 1 = i
    · have hke : (((k : Int) + 1) == i) = true := by simpa using hki
      by_cases hle : c - 1 ≤ (b : Int) - a
      · rw [if_pos ⟨hki, hle⟩] at hw
        have Hw := Lib.hid hw
        have hle' : decide (c - 1 ≤ (b : Int) - a) = true := decide_eq_true hle
        clear hw hx hki
        simp only [List.getElem!_toArray, List.getElem!_cons_zero, List.getElem!_cons_succ]
        gi_wp2
        rw [Hw.out]
        have e3 := d3.other (B' := w.heap.size + 1 + 1) (by omega) (.int .i64 ((a : Int) + c - 1))
        exact ⟨((hset.set d2 rfl _).set e3 rfl _), rfl, (d2.set _).other (by omega) _, e3.set _, (hB2.setCell (p := ⟨w.heap.size + 1 + 1, 0, none⟩) (by simp; omega) _).setCell (p := ⟨w.heap.size + 1 + 1 + 1, 0, none⟩) (by simp; omega) _⟩
      · rw [if_neg (fun h => hle h.2)] at hw
        have Hw := Lib.hid hw
        have hle' : decide (c - 1 ≤ (b : Int) - a) = false := decide_eq_false hle
        clear hw hx hki
        simp only [List.getElem!_toArray, List.getElem!_cons_zero, List.getElem!_cons_succ]
        gi_wp2
        exact ⟨(by first | exact hset | (rw [← hVs]; exact hset)), d0, d1, d2, d3, by simpa using d4, hB2, Hw.out⟩
    · have hke : (((k : Int) + 1) == i) = false := by simpa using hki
      rw [if_neg (fun h => hki h.1)] at hw
      have Hw := Lib.hid hw
      clear hw hx hki
      simp only [List.getElem!_toArray, List.getElem!_cons_zero, List.getElem!_cons_succ]
      gi_wp2
      exact ⟨(by first | exact hset | (rw [← hVs]; exact hset)), d0, d1, d2, d3, by simpa using d4, hB2, Hw.out⟩
  case done =>
    rintro D W hD ⟨c0, c1, c2, c3, c4, hB1, hw⟩ hK
    have hl : (spansV s).length = (spans s.data.toList).length := by simp [spansV]
    rw [hl, placeL_end] at hw
    have Hw := Lib.hid hw
    have hc2 := c2.cell
    have hf2 := c2.frozen
    have hc3 := c3.cell
    have hf3 := c3.frozen
    clear hw hl
    gi_wp2
    rw [Hw.out]
    have d2 := (c2.set (.int .i64 0)).other (B' := w.heap.size + 1 + 1 + 1) (by omega) (.int .i64 10)
    have d3 := (c3.other (B' := w.heap.size + 1 + 1) (by omega) (.int .i64 0)).set (.int .i64 10)
    have hB2 := (hB1.setCell (p := ⟨w.heap.size + 1 + 1, 0, none⟩) (by simp; omega) (.int .i64 0)).setCell (p := ⟨w.heap.size + 1 + 1 + 1, 0, none⟩) (by simp; omega) (.int .i64 10)
    have hK2 := ((KeepsOthers.setCell W ⟨w.heap.size + 1 + 1, 0, none⟩ (.int .i64 0)).trans (KeepsOthers.setCell _ ⟨w.heap.size + 1 + 1 + 1, 0, none⟩ (.int .i64 10))).same D _ hK rfl
    refine ⟨by simp, .inl ⟨_, _, rfl, run_takeDeferred hK2, ?_⟩⟩
    exact ⟨.tuple #[.int .i64 0, .int .i64 10], by simp [results, Try.results20, go_sem, (d2.put _ hK2 rfl).cell, (d3.put _ hK2 rfl).cell], rfl, hB2.put (Nat.le_refl _) (by omega)⟩
  case stop =>
    rintro D r W hD ⟨rfl, c2, c3, hB1⟩ hK
    gi_wp2
    refine ⟨by simp, .inl ⟨_, _, rfl, run_takeDeferred hK, ?_⟩⟩
    exact ⟨.tuple #[_, _], by simp [results, Try.results20, go_sem, (c2.put _ hK rfl).cell, (c3.put _ hK rfl).cell], rfl, hB1.put (Nat.le_refl _) (by omega)⟩
#print axioms Try.Place_calls
end Go.Proofs
