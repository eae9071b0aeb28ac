/- cursor.Where and cursor.Place of this program, in plain words over the parts of a text. Conditions: a text that a string can be. -/
import Derived.Test.YtgapefkoemofcaaDoorSpans
namespace Go.Cur
/-- Where: the line and the column of a place, and the error; n lines lie ahead. -/
def whereL : List (Nat × Nat) → Int → Nat → Int × Int × Int
  | [], _, _ => (0, 0, 10)
  | (a, b) :: r, i, n => if i ≤ (b : Int) then ((n : Int) + 1, i - a + 1, 0) else whereL r i (n + 1)
theorem whereL_drop {sp : List (Nat × Nat)} {k a b : Nat} (h : sp[k]? = some (a, b)) (i : Int) : whereL (sp.drop k) i k = if i ≤ (b : Int) then ((k : Int) + 1, i - a + 1, 0) else whereL (sp.drop (k + 1)) i (k + 1) := by
  obtain ⟨hk, he⟩ := List.getElem?_eq_some_iff.1 h
  rw [List.drop_eq_getElem_cons hk, he]; rfl
theorem whereL_end (sp : List (Nat × Nat)) (i : Int) : whereL (sp.drop sp.length) i sp.length = (0, 0, 10) := by simp [whereL]
/-- Place: the place of a line and a column, and the error; n lines lie ahead. -/
def placeL : List (Nat × Nat) → Int → Int → Nat → Int × Int
  | [], _, _, _ => (0, 10)
  | (a, b) :: r, i, c, n => if (n : Int) + 1 = i ∧ c - 1 ≤ (b : Int) - a then ((a : Int) + c - 1, 0) else placeL r i c (n + 1)
theorem placeL_drop {sp : List (Nat × Nat)} {k a b : Nat} (h : sp[k]? = some (a, b)) (i c : Int) : placeL (sp.drop k) i c k = if (k : Int) + 1 = i ∧ c - 1 ≤ (b : Int) - a then ((a : Int) + c - 1, 0) else placeL (sp.drop (k + 1)) i c (k + 1) := by
  obtain ⟨hk, he⟩ := List.getElem?_eq_some_iff.1 h
  rw [List.drop_eq_getElem_cons hk, he]; rfl
theorem placeL_end (sp : List (Nat × Nat)) (i c : Int) : placeL (sp.drop sp.length) i c sp.length = (0, 10) := by simp [placeL]
end Go.Cur
namespace Go.Proofs
open Go.RowKit Go.Shelf Go.Cur
attribute [local go_sem] Oper.semAt_some

theorem spansV_get {s : ByteArray} {k : Nat} {x : Array Value} (h : (spansV s)[k]? = some x) : ∃ a b, x = #[.int .i64 (a : Nat), .int .i64 (b : Nat)] ∧ (spans s.data.toList)[k]? = some (a, b) := by
  simp only [spansV, List.getElem?_map, Option.map_eq_some_iff] at h
  obtain ⟨⟨a, b⟩, hp, rfl⟩ := h
  exact ⟨a, b, rfl, hp⟩

theorem where_close {w W : World} {n B : Nat} {u1 u2 u3 u4 : Value} (c1 : Boxed W (n + 1) 3 u1) (c2 : Boxed W (n + 1 + 1) 3 u2) (c3 : Boxed W (n + 1 + 1 + 1) 23 u3) (c4 : Boxed W (n + 1 + 1 + 1 + 1) 3 u4) (hB1 : Below n w W) (v1 v2 v3 v4 : Value) :
    RF stillT B W ((((W.setCell ⟨n + 1 + 1 + 1 + 1, 0, none⟩ v4).setCell ⟨n + 1, 0, none⟩ v1).setCell ⟨n + 1 + 1, 0, none⟩ v2).setCell ⟨n + 1 + 1 + 1, 0, none⟩ v3).drew ∧
    Boxed ((((W.setCell ⟨n + 1 + 1 + 1 + 1, 0, none⟩ v4).setCell ⟨n + 1, 0, none⟩ v1).setCell ⟨n + 1 + 1, 0, none⟩ v2).setCell ⟨n + 1 + 1 + 1, 0, none⟩ v3).drew (n + 1) 3 v1 ∧
    Boxed ((((W.setCell ⟨n + 1 + 1 + 1 + 1, 0, none⟩ v4).setCell ⟨n + 1, 0, none⟩ v1).setCell ⟨n + 1 + 1, 0, none⟩ v2).setCell ⟨n + 1 + 1 + 1, 0, none⟩ v3).drew (n + 1 + 1) 3 v2 ∧
    Boxed ((((W.setCell ⟨n + 1 + 1 + 1 + 1, 0, none⟩ v4).setCell ⟨n + 1, 0, none⟩ v1).setCell ⟨n + 1 + 1, 0, none⟩ v2).setCell ⟨n + 1 + 1 + 1, 0, none⟩ v3).drew (n + 1 + 1 + 1) 23 v3 ∧
    Below n w ((((W.setCell ⟨n + 1 + 1 + 1 + 1, 0, none⟩ v4).setCell ⟨n + 1, 0, none⟩ v1).setCell ⟨n + 1 + 1, 0, none⟩ v2).setCell ⟨n + 1 + 1 + 1, 0, none⟩ v3).drew := by
  have e1 := c1.other (B' := n + 1 + 1 + 1 + 1) (by omega) v4
  have e2 := (c2.other (B' := n + 1 + 1 + 1 + 1) (by omega) v4).other (B' := n + 1) (by omega) v1
  have e3 := ((c3.other (B' := n + 1 + 1 + 1 + 1) (by omega) v4).other (B' := n + 1) (by omega) v1).other (B' := n + 1 + 1) (by omega) v2
  refine ⟨(((((RF.refl _).set c4 rfl v4).set e1 rfl v1).set e2 rfl v2).set e3 rfl v3).drew, ?_, ?_, ?_, ?_⟩
  · exact ((e1.set v1).other (by omega) v2).other (by omega) v3
  · exact (e2.set v2).other (by omega) v3
  · exact e3.set v3
  · exact ((((hB1.setCell (p := ⟨n + 1 + 1 + 1 + 1, 0, none⟩) (by simp; omega) v4).setCell (p := ⟨n + 1, 0, none⟩) (by simp) v1).setCell (p := ⟨n + 1 + 1, 0, none⟩) (by simp; omega) v2).setCell (p := ⟨n + 1 + 1 + 1, 0, none⟩) (by simp; omega) v3).drew

set_option maxRecDepth 100000 in
set_option maxHeartbeats 1000000 in
theorem Tryd.Where_calls (s : ByteArray) (i : Int) (w : World) (hs : s.size ≤ 1000000) (h0 : 0 ≤ i) (h9 : i ≤ 9223372036854775807) :
    Calls Tryd.prog 28 #[.string s, .int .i64 i] w fun e w' => e = .returned (.tuple #[.int .i64 (whereL (spans s.data.toList) i 0).1, .int .i64 (whereL (spans s.data.toList) i 0).2.1, .int .i64 (whereL (spans s.data.toList) i 0).2.2]) ∧ Below w.heap.size w w' := by
  have hd : decide (i < 0) = false := decide_eq_false (by omega)
  refine (callsIn_wide (n := 0)).1 (callsIn_of_wp_marks Tryd.func28 rfl trivial ?_ rfl)
  simp only [Tryd.ntmps28, List.size_toArray, List.length_cons, List.length_nil, Nat.reduceAdd, Nat.reduceSub, Array.replicate_succ, Array.replicate_zero, List.push_toArray, List.append_toArray, List.nil_append, List.cons_append]
  gi_wp2_with (refine ⟨trivial, rfl, ?_⟩; gi_at_call 37; refine (callsIn_wide.2 (Tryd.spans_calls _ _)).mono ?_; rintro e w' ⟨rfl, rfl⟩)
  obtain ⟨V, hV⟩ : ∃ V, V = (((((w.alloc (Obj.cells #[Value.int IntKind.i64 i] 3)).alloc (Obj.cells #[Value.int IntKind.i64 0] 3)).alloc (Obj.cells #[Value.int IntKind.i64 0] 3)).alloc (Obj.cells #[Value.int IntKind.i64 0] 23)).alloc (Obj.cells #[Value.int IntKind.i64 0] 3)).alloc (.cells #[.string s] 9) := ⟨_, rfl⟩
  have hVs : V.heap.size = w.heap.size + 1 + 1 + 1 + 1 + 1 + 1 := by rw [hV]; simp
  have b0 : Boxed V w.heap.size 3 (.int .i64 i) := by rw [hV]; exact (((((Boxed.new w 3 _).alloc _).alloc _).alloc _).alloc _).alloc _
  have b1 : Boxed V (w.heap.size + 1) 3 (.int .i64 0) := by rw [hV]; exact ((((Boxed.at 3 _ (by simp)).alloc _).alloc _).alloc _).alloc _
  have b2 : Boxed V (w.heap.size + 1 + 1) 3 (.int .i64 0) := by rw [hV]; exact (((Boxed.at 3 _ (by simp)).alloc _).alloc _).alloc _
  have b3 : Boxed V (w.heap.size + 1 + 1 + 1) 23 (.int .i64 0) := by rw [hV]; exact ((Boxed.at 23 _ (by simp)).alloc _).alloc _
  have b4 : Boxed V (w.heap.size + 1 + 1 + 1 + 1) 3 (.int .i64 0) := by rw [hV]; exact (Boxed.at 3 _ (by simp)).alloc _
  have b5 : Boxed V (w.heap.size + 1 + 1 + 1 + 1 + 1) 9 (.string s) := by rw [hV]; exact Boxed.at 9 _ (by simp)
  have hB : Below w.heap.size w V := by
    rw [hV]; exact ((((((Below.refl _ w).alloc (Nat.le_refl _) _).alloc (by simp) _).alloc (by simp; omega) _).alloc (by simp; omega) _).alloc (by simp; omega) _).alloc (by simp; omega) _
  rw [← hV]
  clear hV
  refine range_seq (gf := 43) (lb := #[.pointer (some ⟨w.heap.size + 1 + 1 + 1 + 1 + 1, 0, none⟩)]) rfl (enters_of Tryd.func43 (by kernel_rfl) rfl)
    (Tryd.spans1_seq _ s V (by unfold maxLen; omega) (by omega) b5) (Below.refl _ _) (fun k x h => by obtain ⟨a, b, rfl, _⟩ := spansV_get h; rfl)
    (fun k W => Boxed W w.heap.size 3 (.int .i64 i) ∧ Boxed W (w.heap.size + 1) 3 (.int .i64 0) ∧ Boxed W (w.heap.size + 1 + 1) 3 (.int .i64 0) ∧ Boxed W (w.heap.size + 1 + 1 + 1) 23 (.int .i64 0) ∧ Boxed W (w.heap.size + 1 + 1 + 1 + 1) 3 (.int .i64 (k : Nat)) ∧ Below w.heap.size w W ∧ whereL (spans s.data.toList) i 0 = whereL ((spans s.data.toList).drop k) i k)
    (fun c W => c = .ret ∧ Boxed W (w.heap.size + 1) 3 (.int .i64 (whereL (spans s.data.toList) i 0).1) ∧ Boxed W (w.heap.size + 1 + 1) 3 (.int .i64 (whereL (spans s.data.toList) i 0).2.1) ∧ Boxed W (w.heap.size + 1 + 1 + 1) 23 (.int .i64 (whereL (spans s.data.toList) i 0).2.2) ∧ Below w.heap.size w W)
    (fun k X Y row h hg hr => ⟨h.1.own hg hr, h.2.1.own hg hr, h.2.2.1.own hg hr, h.2.2.2.1.own hg hr, h.2.2.2.2.1.own hg hr, h.2.2.2.2.2.1.own (Nat.le_refl _) hg (by omega) hr, h.2.2.2.2.2.2⟩)
    (fun c _ X Y row h hg hr => ⟨h.1, h.2.1.own hg hr, h.2.2.1.own hg hr, h.2.2.2.1.own hg hr, h.2.2.2.2.own (Nat.le_refl _) hg (by omega) hr⟩)
    ⟨b0, b1, b2, b3, b4, hB, rfl⟩
    (fun x a' _ => a' = { tmps := #[.string s, .int .i64 i, undef, .pointer (some ⟨w.heap.size, 0, none⟩), .pointer (some ⟨w.heap.size + 1, 0, none⟩), .pointer (some ⟨w.heap.size + 1 + 1, 0, none⟩), .pointer (some ⟨w.heap.size + 1 + 1 + 1, 0, none⟩), .pointer (some ⟨w.heap.size + 1 + 1 + 1 + 1, 0, none⟩), x[0]!, x[1]!, .int .i64 i, .bool false, .string s, .func (.func 43) #[] #[.pointer (some ⟨w.heap.size + 1 + 1 + 1 + 1 + 1, 0, none⟩)], x[0]!, x[1]!, undef, undef, undef, undef, undef, undef, undef, undef, undef, undef], defers := [] })
    (fun _ _ _ _ _ _ h _ _ => h) ?assign ?body ?done ?stop
  case assign =>
    intro l k x W K hx hi hK
    obtain ⟨a, b, rfl, hx⟩ := spansV_get hx
    gi_wp2
    exact hK _ _ (RF.refl _) hi rfl
  case body =>
    rintro l k x a' W hx0 ⟨c0, c1, c2, c3, c4, hB1, hw⟩ rfl
    obtain ⟨a, b, rfl, hx⟩ := spansV_get hx0
    clear hx0
    have hc0 := c0.cell
    have hc4 := c4.cell
    have hf4 := c4.frozen
    have hc1 := c1.cell
    have hf1 := c1.frozen
    have hc2 := c2.cell
    have hf2 := c2.frozen
    have hc3 := c3.cell
    have hf3 := c3.frozen
    have hmx : Tryd.prog.follows .mixedOrders = true := by kernel_rfl
    obtain ⟨hab, hbl, hkl⟩ := spans_get hx
    simp only [Array.length_toList, show s.data.size = s.size from rfl] at hbl hkl
    rw [whereL_drop hx] at hw
    by_cases hle : i ≤ (b : Int)
    · rw [if_pos hle] at hw
      have Hw := Lib.hid hw
      clear hw hx
      simp only [List.getElem!_toArray, List.getElem!_cons_zero, List.getElem!_cons_succ]
      have e1 : IntKind.i64.wrap (i - (a : Int)) = i - (a : Int) := IntWalk.i64_in _ (by omega)
      have e2 : IntKind.i64.wrap (i - (a : Int) + 1) = i - (a : Int) + 1 := IntWalk.i64_in _ (by omega)
      gi_wp2
      gi_region_with_o (fail)
      all_goals
        gi_wp2
        rw [Hw.out]
        obtain ⟨z1, z2, z3, z4, z5⟩ := where_close (B := V.heap.size) c1 c2 c3 c4 hB1 (.int .i64 ((k : Int) + 1)) (.int .i64 (i - (a : Int) + 1)) (.int .i64 0) (.int .i64 ((k : Int) + 1))
        exact ⟨z1, rfl, z2, z3, z4, z5⟩
    · rw [if_neg hle] at hw
      have Hw := Lib.hid hw
      clear hw hx
      simp only [List.getElem!_toArray, List.getElem!_cons_zero, List.getElem!_cons_succ]
      gi_wp2
      exact ⟨(RF.refl _).set c4 rfl _, c0.other (by omega) _, c1.other (by omega) _, c2.other (by omega) _, c3.other (by omega) _, by simpa using c4.set _, hB1.setCell (p := ⟨w.heap.size + 1 + 1 + 1 + 1, 0, none⟩) (by simp; omega) _, Hw.out⟩
  case done =>
    rintro D W hD ⟨c0, c1, c2, c3, c4, hB1, hw⟩ hK
    have hl : (spansV s).length = (spans s.data.toList).length := by simp [spansV]
    rw [hl, whereL_end] at hw
    have Hw := Lib.hid hw
    have hc1 := c1.cell
    have hf1 := c1.frozen
    have hc2 := c2.cell
    have hf2 := c2.frozen
    have hc3 := c3.cell
    have hf3 := c3.frozen
    clear hw hl
    gi_wp2
    rw [Hw.out]
    have d1 := ((c1.set (.int .i64 0)).other (B' := w.heap.size + 1 + 1) (by omega) (.int .i64 0)).other (B' := w.heap.size + 1 + 1 + 1) (by omega) (.int .i64 10)
    have d2 := ((c2.other (B' := w.heap.size + 1) (by omega) (.int .i64 0)).set (.int .i64 0)).other (B' := w.heap.size + 1 + 1 + 1) (by omega) (.int .i64 10)
    have d3 := ((c3.other (B' := w.heap.size + 1) (by omega) (.int .i64 0)).other (B' := w.heap.size + 1 + 1) (by omega) (.int .i64 0)).set (.int .i64 10)
    have hB2 := ((hB1.setCell (p := ⟨w.heap.size + 1, 0, none⟩) (by simp) (.int .i64 0)).setCell (p := ⟨w.heap.size + 1 + 1, 0, none⟩) (by simp; omega) (.int .i64 0)).setCell (p := ⟨w.heap.size + 1 + 1 + 1, 0, none⟩) (by simp; omega) (.int .i64 10)
    have hK2 := (((KeepsOthers.setCell W ⟨w.heap.size + 1, 0, none⟩ (.int .i64 0)).trans (KeepsOthers.setCell _ ⟨w.heap.size + 1 + 1, 0, none⟩ (.int .i64 0))).trans (KeepsOthers.setCell _ ⟨w.heap.size + 1 + 1 + 1, 0, none⟩ (.int .i64 10))).same D _ hK rfl
    refine ⟨by simp, .inl ⟨_, _, rfl, run_takeDeferred hK2, ?_⟩⟩
    exact ⟨.tuple #[.int .i64 0, .int .i64 0, .int .i64 10], by simp [results, Tryd.results28, go_sem, (d1.put _ hK2 rfl).cell, (d2.put _ hK2 rfl).cell, (d3.put _ hK2 rfl).cell], rfl, hB2.put (Nat.le_refl _) (by omega)⟩
  case stop =>
    rintro D c W hD ⟨rfl, c1, c2, c3, hB1⟩ hK
    gi_wp2
    refine ⟨by simp, .inl ⟨_, _, rfl, run_takeDeferred hK, ?_⟩⟩
    exact ⟨.tuple #[_, _, _], by simp [results, Tryd.results28, go_sem, (c1.put _ hK rfl).cell, (c2.put _ hK rfl).cell, (c3.put _ hK rfl).cell], rfl, hB1.put (Nat.le_refl _) (by omega)⟩

set_option maxHeartbeats 400000 in
theorem Tryd.Where_neg (s : ByteArray) (i : Int) (w : World) (h0 : i < 0) :
    Calls Tryd.prog 28 #[.string s, .int .i64 i] w fun e w' => e = .returned (.tuple #[.int .i64 0, .int .i64 0, .int .i64 10]) ∧ Below w.heap.size w w' := by
  go_enter Tryd.func28, Tryd.ntmps28
  go_wp2
  refine bodyPost_ret (v := .tuple #[.int .i64 0, .int .i64 0, .int .i64 10]) (by simp [results, Tryd.results28, go_sem]) rfl ⟨rfl, ?_⟩
  exact ((((Below.refl _ w).alloc (Nat.le_refl _) _).alloc (by simp) _).alloc (by simp; omega) _).alloc (by simp; omega) _
#print axioms Tryd.Where_calls
#print axioms Tryd.Where_neg
end Go.Proofs
