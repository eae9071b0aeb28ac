/- Layer 9's law package: shown, a plan of three routes. No condition. -/
import Derived.Test.YtbnefehfkeonhaaPlanFind
import Derived.Test.YtbnefehfkeonhaaPlanCount
import Derived.Test.YtbnefehfkeonhaaPlanNorm
namespace Go.Proofs
open Go.RowKit Go.Plans
attribute [local go_sem] Oper.semAt_some
theorem cell_of_block {W : World} {b : Nat} {c : Array Value} {t : TypeId} {z : Nat × Nat} (h : W.heap[b]? = some (.cells c t z)) (i : Nat) : W.cell? ⟨b, i, none⟩ = c[i]? := by
  unfold World.cell?; simp only [h]; rfl
theorem block_at (W : World) (o : Obj) {b : Nat} (h : W.heap.size = b) : (W.alloc o).heap[b]? = some o := by rw [← h]; exact World.alloc_heap_new W o
theorem block_keep {W : World} {b : Nat} {o : Obj} (h : W.heap[b]? = some o) (p : Obj) : (W.alloc p).heap[b]? = some o := (Below.heap_alloc W p b (Array.getElem?_eq_some_iff.1 h).1).trans h
theorem ints_block {W : World} {b : Nat} {l : List Int} (h : W.heap[b]? = some (.cells (l.map intV).toArray 3)) (hm : l.length ≤ maxLen) : HasInts W (.slice (some ⟨b, 0, none⟩) l.length l.length) l :=
  .inr ⟨b, 0, l.length, rfl, Nat.le_refl _, hm, (Array.getElem?_eq_some_iff.1 h).1, fun i x hi => by
    rw [cell_of_block h, Nat.zero_add, List.getElem?_toArray, List.getElem?_map, hi]; rfl⟩
def shownP : Rts := [[3, 1], [], [2]]
def shownV (n : Nat) : Value := .slice (some ⟨n + 3, 0, none⟩) 3 3
set_option maxRecDepth 100000 in
theorem shown_has {V : World} {n : Nat} (h0 : V.heap[n]? = some (.cells #[.int .i64 3, .int .i64 1] 3)) (h2 : V.heap[n + 2]? = some (.cells #[.int .i64 2] 3))
    (h3 : V.heap[n + 3]? = some (.cells #[.slice (some ⟨n, 0, none⟩) 2 2, .slice (some ⟨n + 1, 0, none⟩) 0 0, .slice (some ⟨n + 2, 0, none⟩) 1 1] 42)) : HasRts V (shownV n) shownP := by
  refine .inr ⟨n + 3, 0, 3, rfl, Nat.le_refl _, by unfold maxLen; omega, (Array.getElem?_eq_some_iff.1 h3).1, fun i l hi => ?_⟩
  match i, hi with
  | 0, hi =>
    cases hi
    exact ⟨_, cell_of_block h3 0, ints_block (l := [3, 1]) h0 (by unfold maxLen; simp)⟩
  | 1, hi =>
    cases hi
    exact ⟨_, cell_of_block h3 1, .inl ⟨rfl, _, _, rfl⟩⟩
  | 2, hi =>
    cases hi
    exact ⟨_, cell_of_block h3 2, ints_block (l := [2]) h2 (by unfold maxLen; simp)⟩
  | i + 3, hi => simp [shownP] at hi
set_option maxRecDepth 100000 in
set_option maxHeartbeats 2000000 in
theorem Try.planShown_calls (w : World) : Calls Try.prog 9 #[] w fun e w' => e = .returned (.bool true) ∧ Below w.heap.size w w' := by
  go_enter Try.func9, Try.ntmps9
  go_wp2_with (fail)
  obtain ⟨V, hV⟩ : ∃ V, V = (((((w.alloc (Obj.cells #[Value.int IntKind.i64 3, Value.int IntKind.i64 1] 3)).alloc (Obj.cells #[] 3)).alloc (Obj.cells #[Value.int IntKind.i64 2] 3)).alloc (Obj.cells #[Value.slice (some ⟨w.heap.size, 0, none⟩) 2 2, Value.slice (some ⟨w.heap.size + 1, 0, none⟩) 0 0, Value.slice (some ⟨w.heap.size + 1 + 1, 0, none⟩) 1 1] 42)).alloc (Obj.cells #[Value.slice (some ⟨w.heap.size + 1 + 1 + 1, 0, none⟩) 3 3] 24)) := ⟨_, rfl⟩
  rw [← hV]
  have hVs : V.heap.size = w.heap.size + 1 + 1 + 1 + 1 + 1 := by rw [hV]; simp
  have hB : Below w.heap.size w V := by
    rw [hV]; exact (((((Below.refl _ w).alloc (Nat.le_refl _) _).alloc (by simp) _).alloc (by simp; omega) _).alloc (by simp; omega) _).alloc (by simp; omega) _
  have q0 : V.heap[w.heap.size]? = some (.cells #[.int .i64 3, .int .i64 1] 3) := by rw [hV]; exact block_keep (block_keep (block_keep (block_keep (World.alloc_heap_new w _) _) _) _) _
  have q2 : V.heap[w.heap.size + 2]? = some (.cells #[.int .i64 2] 3) := by rw [hV]; exact block_keep (block_keep (block_at _ _ (by simp)) _) _
  have q3 : V.heap[w.heap.size + 3]? = some (.cells #[.slice (some ⟨w.heap.size, 0, none⟩) 2 2, .slice (some ⟨w.heap.size + 1, 0, none⟩) 0 0, .slice (some ⟨w.heap.size + 2, 0, none⟩) 1 1] 42) := by rw [hV]; exact block_keep (block_at _ _ (by simp)) _
  have q4 : Boxed V (w.heap.size + 1 + 1 + 1 + 1) 24 (.slice (some ⟨w.heap.size + 1 + 1 + 1, 0, none⟩) 3 3) := by rw [hV]; exact Boxed.at 24 _ (by simp)
  have HP := Lib.hid (shown_has q0 q2 q3)
  clear hV q0 q2 q3
  have HF : Hid (∀ W, Below V.heap.size V W → Calls Try.prog 19 #[.agg #[.slice (some ⟨w.heap.size + 1 + 1 + 1, 0, none⟩) 3 3], .int .i64 2] W fun e w' => e = .returned (.tuple #[.int .i64 2, .int .i64 0, .bool true]) ∧ Below W.heap.size W w') :=
    fun W hW => (Try.Find_calls (shownV w.heap.size) shownP 2 W (HP.out.next hW)).mono fun e w' h => ⟨h.1.trans (by rfl), h.2⟩
  have HK : Hid (∀ W, Below V.heap.size V W → Calls Try.prog 22 #[.agg #[.slice (some ⟨w.heap.size + 1 + 1 + 1, 0, none⟩) 3 3], .int .i64 4] W fun e w' => ∃ g, e = .returned (.slice (some ⟨g, 0, none⟩) 4 4) ∧ w'.cell? ⟨g, 0, none⟩ = some (.int .i64 0) ∧ w'.cell? ⟨g, 3, none⟩ = some (.int .i64 1) ∧ g < w'.heap.size ∧ Below W.heap.size W w') :=
    fun W hW => (Try.Count_in (shownV w.heap.size) shownP 4 W (by omega) (by omega) (by unfold shownP many; simp) (HP.out.next hW)).mono fun e w' ⟨g, h1, h2, h3⟩ =>
      ⟨g, h1, owns_at (L := countL shownP 4) (x := 0) h2 (by omega) rfl, owns_at (L := countL shownP 4) (x := 1) h2 (by omega) rfl, (World.ownsRow.lt h2 g rfl).2, h3⟩
  have HM : Hid (∀ W, Below V.heap.size V W → Calls Try.prog 16 #[.agg #[.slice (some ⟨w.heap.size + 1 + 1 + 1, 0, none⟩) 3 3]] W fun e w' => e = .returned (.int .i64 3) ∧ Below W.heap.size W w') :=
    fun W hW => (Try.Many_calls (shownV w.heap.size) shownP W (by unfold shownP many; simp) (HP.out.next hW)).mono fun e w' h => ⟨h.1.trans (by rfl), h.2⟩
  have HNo : Hid (∀ W, Below V.heap.size V W → Calls Try.prog 14 #[.agg #[.slice (some ⟨w.heap.size + 1 + 1 + 1, 0, none⟩) 3 3]] W fun e w' => ∃ a c, e = .returned (.agg #[.slice a 2 c]) ∧ Below W.heap.size W w') :=
    fun W hW => (Try.Norm_calls (shownV w.heap.size) shownP W (by simp [shownP]) (by simp [shownP]) (HP.out.next hW)).mono fun e w' ⟨u, h1, h2, h3⟩ => by
      obtain ⟨a, c, rfl⟩ := h2.len
      exact ⟨a, c, h1, h3⟩
  have HC : Hid (∀ W, Below V.heap.size V W → Calls Try.prog 10 #[.agg #[.slice (some ⟨w.heap.size + 1 + 1 + 1, 0, none⟩) 3 3]] W fun e w' => e = .returned (.int .i64 0) ∧ Below W.heap.size W w') :=
    fun W hW => (Try.Check_calls (shownV w.heap.size) shownP W (by unfold shownP many; simp) (HP.out.next hW)).mono fun e w' h => ⟨h.1.trans (by rfl), h.2⟩
  have HC2 : Hid (∀ W : World, Calls Try.prog 10 #[.agg #[.slice (some ⟨W.heap.size + 1, 0, none⟩) 1 1]] ((W.alloc (Obj.cells #[Value.int IntKind.i64 400] 3)).alloc (Obj.cells #[Value.slice (some ⟨W.heap.size, 0, none⟩) 1 1] 42)) fun e w' => e = .returned (.int .i64 1) ∧ Below W.heap.size W w') := fun W => by
    have h3 : ((W.alloc (Obj.cells #[Value.int IntKind.i64 400] 3)).alloc (Obj.cells #[Value.slice (some ⟨W.heap.size, 0, none⟩) 1 1] 42)).heap[W.heap.size + 1]? = some (Obj.cells #[Value.slice (some ⟨W.heap.size, 0, none⟩) 1 1] 42) := block_at _ _ (by simp)
    have h0 : ((W.alloc (Obj.cells #[Value.int IntKind.i64 400] 3)).alloc (Obj.cells #[Value.slice (some ⟨W.heap.size, 0, none⟩) 1 1] 42)).heap[W.heap.size]? = some (Obj.cells #[Value.int IntKind.i64 400] 3) := block_keep (World.alloc_heap_new _ _) _
    have hh : HasRts ((W.alloc (Obj.cells #[Value.int IntKind.i64 400] 3)).alloc (Obj.cells #[Value.slice (some ⟨W.heap.size, 0, none⟩) 1 1] 42)) (.slice (some ⟨W.heap.size + 1, 0, none⟩) 1 1) [[400]] := by
      refine .inr ⟨W.heap.size + 1, 0, 1, rfl, Nat.le_refl _, by unfold maxLen; omega, (Array.getElem?_eq_some_iff.1 h3).1, fun i l hi => ?_⟩
      match i, hi with
      | 0, hi =>
        cases hi
        exact ⟨_, cell_of_block h3 0, ints_block (l := [400]) h0 (by unfold maxLen; simp)⟩
      | i + 1, hi => simp at hi
    refine (Try.Check_calls _ [[400]] _ (by unfold many; simp) hh).mono fun e w' h => ⟨h.1.trans (by rfl), ?_⟩
    exact (((Below.refl _ W).alloc (Nat.le_refl _) _).alloc (by simp) _).trans (h.2.mono (by simp; omega))
  have hV0 : Below V.heap.size V V := Below.refl _ _
  refine (HF.out _ hV0).mono ?_
  rintro e w1 ⟨rfl, hb1⟩
  have c1 := (q4.below hb1 q4.lt).cell
  have s1 := hb1.size
  have HB1 := Lib.hid hb1
  clear hb1
  go_wp2_with (fail)
  refine (HK.out _ HB1.out).mono ?_
  rintro e w2 ⟨g, rfl, k0, k3, kg, hb2⟩
  have hb2 : Below V.heap.size V w2 := HB1.out.trans (hb2.mono s1)
  have c2 := (q4.below hb2 q4.lt).cell
  have s2 := hb2.size
  have HB2 := Lib.hid hb2
  clear hb2 c1 HB1
  go_wp2_with (fail)
  refine (HM.out _ HB2.out).mono ?_
  rintro e w3 ⟨rfl, hb3'⟩
  have hb3 : Below V.heap.size V w3 := HB2.out.trans (hb3'.mono s2)
  have c3 := (q4.below hb3 q4.lt).cell
  replace k0 := (hb3'.cell (p := ⟨g, 0, none⟩) kg).trans k0
  replace k3 := (hb3'.cell (p := ⟨g, 3, none⟩) kg).trans k3
  replace kg := Nat.lt_of_lt_of_le kg hb3'.size
  have s3 := hb3.size
  have HB3 := Lib.hid hb3
  clear hb3 hb3' c2 HB2
  go_wp2_with (fail)
  refine (HNo.out _ HB3.out).mono ?_
  rintro e w4 ⟨na, nc, rfl, hb4'⟩
  have hb4 : Below V.heap.size V w4 := HB3.out.trans (hb4'.mono s3)
  have c4 := (q4.below hb4 q4.lt).cell
  replace k0 := (hb4'.cell (p := ⟨g, 0, none⟩) kg).trans k0
  replace k3 := (hb4'.cell (p := ⟨g, 3, none⟩) kg).trans k3
  replace kg := Nat.lt_of_lt_of_le kg hb4'.size
  have s4 := hb4.size
  have HB4 := Lib.hid hb4
  clear hb4 hb4' c3 HB3
  have hfd : ∀ w : World, (Instr.field 24 (.agg #[.slice na 2 nc]) 0).run Try.prog w = .ok (.slice na 2 nc) w := fun _ => by kernel_rfl
  go_wp2_with (fail)
  refine (HC.out _ HB4.out).mono ?_
  rintro e w5 ⟨rfl, hb5'⟩
  have hb5 : Below V.heap.size V w5 := HB4.out.trans (hb5'.mono s4)
  have s5 := hb5.size
  have HB5 := Lib.hid hb5
  clear hb5 hb5' c4 HB4 k0 k3 kg
  go_wp2_with (fail)
  refine (HC2.out w5).mono ?_
  rintro e w6 ⟨rfl, hb6⟩
  have HB6 := Lib.hid (hB.trans ((HB5.out.trans (hb6.mono s5)).mono (by omega)))
  clear hb6 HB5
  go_wp2_with (fail)
  go_ret
  exact ⟨rfl, HB6.out⟩
#print axioms Try.planShown_calls
end Go.Proofs
