/- diag's marks and diags. Conditions: at most two million. -/
import Derived.Test.YtgapefkoemofcaaDoorPut
import Derived.Laws.MakeOwn
namespace Go.Proofs
open Go.RowKit Go.Dg
attribute [local go_sem] Oper.semAt_some
attribute [local go_sem ↓] Go.wp_at_zero Go.wp_at_succ
theorem Tryd.info25 : (Tryd.prog.info? 25).map (fun i => (i.zero, i.size, i.bytes)) = some (some (.agg #[.int .i64 0, .int .i64 0]), 2, 16) := by kernel_rfl
theorem grown_below {n₀ : Nat} {w wr w1 : World} {tmp : Obj} {v : Value} {e : TypeId} {size k : Nat} {xs : List Value} (hB : Below n₀ w wr) (hn : n₀ ≤ wr.heap.size) (hown : wr.ownsRow n₀ e size v k xs) (hgrow : (wr.alloc tmp).grownBy w1 v.ownBlock) : Below n₀ w w1 := by
  refine (hB.alloc hn tmp).grown hgrow (by simp; omega) ?_
  intro k hk
  rcases hown.2 with ⟨rfl, _⟩ | ⟨g, cap, cur, rfl, hbg, _⟩
  · simp [Value.ownBlock] at hk
  · have : g = k := by simpa [Value.ownBlock] using hk
    omega
theorem cells_new2 (W : World) (a b : Value) (t : TypeId) : ∀ (j : Nat) (u : Value), [a, b][j]? = some u → (W.alloc (.cells #[a, b] t)).cell? ((⟨W.heap.size, 0, none⟩ : Addr).add j) = some u := by
  intro j u h
  have T := Two.new W a b t
  rw [Addr.add_lit, Nat.zero_add]
  rcases j with _ | _ | j
  · have e : a = u := by simpa using h
    subst e; exact T.2.1
  · have e : b = u := by simpa using h
    subst e; exact T.2.2
  · simp at h
theorem cells_new2' {W : World} {n : Nat} {a b : Value} {t : TypeId} (h : n = W.heap.size) : ∀ (j : Nat) (u : Value), [a, b][j]? = some u → (W.alloc (.cells #[a, b] t)).cell? ((⟨n, 0, none⟩ : Addr).add j) = some u := by
  rw [h]; exact cells_new2 W a b t
theorem made_any (t e : TypeId) (ht : Tryd.prog.underlying t = some (.slice e)) (hi : (Tryd.prog.info? e).map (fun i => (i.zero, i.size, i.bytes)) = some (some (.agg #[.int .i64 0, .int .i64 0]), 2, 16)) (c : Nat) (hc : c ≤ 3000000) :
    ∃ M : Array Value, M.size = c * 2 ∧ ∀ w : World, (Instr.makeSlice t (.int .i64 0) (.int .i64 (c : Int))).run Tryd.prog w = .ok (.slice (some ⟨w.heap.size, 0, none⟩) 0 c) (w.alloc (.cells M e)) := by
  obtain ⟨i0, hi0, hz0, hz1, hz2⟩ := info_parts hi
  refine ⟨madeCells (Value.agg #[.int .i64 0, .int .i64 0]).cells (c * i0.size), by rw [size_madeCells, hz1], fun w => ?_⟩
  have hr := run_make (P := Tryd.prog) w t e i0 _ ht hi0 hz0 .i64 .i64 0 c (Int.le_refl _) (by omega) (by rw [hz2]; omega) (by omega)
  simpa using hr
set_option maxRecDepth 100000 in
set_option maxHeartbeats 2000000 in
theorem Tryd.diags_any (v : Value) (l : List Mk) (w : World) (hl : l.length ≤ 2000000) (hv : HasDiags w v l) :
    Calls Tryd.prog 24 #[v] w fun e w' => ∃ v', e = .returned v' ∧ w'.ownsRow w.heap.size 25 2 v' l.length (cellsOf l) ∧ Below w.heap.size w w' := by
  obtain ⟨i0, hi, hz0, hz1, hz2⟩ := info_parts Tryd.info25
  have HI := Lib.hid hi
  rcases hv with ⟨rfl, ao, cap, rfl⟩ | ⟨b, off, cap, rfl, hlc, hcm, hd⟩
  · obtain ⟨M, hM, hmk⟩ := made_any 28 25 Tryd.underlying28 Tryd.info25 0 (by omega)
    have hmk' : ∀ w : World, (Instr.makeSlice 28 (.int .i64 0) (.int .i64 0)).run Tryd.prog w = .ok (.slice (some ⟨w.heap.size, 0, none⟩) 0 0) (w.alloc (.cells M 25)) := hmk
    clear hmk hl hi
    go_enter Tryd.func24, Tryd.ntmps24
    go_wp2
    go_loopw [3, 5, 11] (fun v' _d i wr => i = .int .i64 0 ∧ wr.ownsRow w.heap.size 25 2 v' 0 [] ∧ Below w.heap.size w wr) (fun _ _ _ _ => 0)
    case atStart => exact ⟨rfl, World.ownsRow_made w _ 0 (Nat.le_refl _) (by unfold maxLen; omega) hM, (Below.refl _ w).alloc (Nat.le_refl _) _⟩
    case round =>
      obtain ⟨rfl, hown, hB⟩ := hrel
      have HO := Lib.hid hown
      clear hown
      go_wp2
      go_ret
      exact ⟨_, rfl, HO.out, hB⟩
  · obtain ⟨M, hM, hmk⟩ := made_any 28 25 Tryd.underlying28 Tryd.info25 (l.length) (by omega)
    have hmk' : ∀ w : World, (Instr.makeSlice 28 (.int .i64 0) (.int .i64 (l.length : Int))).run Tryd.prog w = .ok (.slice (some ⟨w.heap.size, 0, none⟩) 0 (l.length)) (w.alloc (.cells M 25)) := hmk
    have HD := Lib.hid hd
    have hbl := hd.1
    unfold maxLen at hcm
    clear hd hi hmk
    go_enter Tryd.func24, Tryd.ntmps24
    go_wp2
    go_loopw [3, 5, 11] (fun v' _d i wr => ∃ k : Nat, k ≤ l.length ∧ i = .int .i64 (k : Int) ∧ wr.ownsRow w.heap.size 25 2 v' k (cellsOf (l.take k)) ∧ Below w.heap.size w wr) (fun _ _ i _ => l.length - (intOf i).toNat)
    case atStart => exact ⟨0, Nat.zero_le _, rfl, World.ownsRow_made w _ (l.length) (Nat.le_refl _) (by unfold maxLen; omega) hM, (Below.refl _ w).alloc (Nat.le_refl _) _⟩
    case round =>
      obtain ⟨k, hk, rfl, hown, hB⟩ := hrel
      have hB1 : w.heap.size ≤ wr.heap.size := hB.size
      have hml : k + 1 ≤ maxLen := by unfold maxLen; omega
      have hml2 : (k + 1) * 16 ≤ 140737488355328 := by omega
      by_cases hlt : k < l.length
      · obtain ⟨p, hp⟩ : ∃ p, l[k]? = some p := ⟨_, List.getElem?_eq_getElem hlt⟩
        obtain ⟨x0, x1⟩ := HD.out.read hp
        replace x0 := (hB.cell (p := ⟨b, off + k * 2, none⟩) hbl).trans x0
        replace x1 := (hB.cell (p := ⟨b, off + k * 2 + 1, none⟩) hbl).trans x1
        have HT := Lib.hid (take_get hp)
        have hbr : b < wr.heap.size := Nat.lt_of_lt_of_le hbl hB1
        clear hp
        go_wp2_with (at_builtin; refine wpList_append_own _ rfl _ _ 28 rfl w.heap.size 25 i0 (.agg #[.int .i64 0, .int .i64 0]) 2 16 Tryd.underlying28 HI.out hz0 hz1 hz2 rfl (by decide) _ _ _ rfl ((hown.alloc _).alloc _) ⟨wr.heap.size + 1, 0, none⟩ 1 1 [.int .i64 p.1, .int .i64 p.2] rfl rfl (cells_new2' (by simp)) (by simp [Value.oneCell']) hml hml2 (by simp; omega) ?_; intro v' w1 hown' hgrow _)
        go_roundw
        case rel => exact ⟨k + 1, by omega, by go_num, by rw [HT.out, cells_append]; exact hown', grown_below (hB.alloc hB1 _) (by simp; omega) (hown.alloc _) hgrow⟩
        case measure => simp [intOf]; omega
      · have hkk : k = l.length := by omega
        subst hkk
        rw [List.take_length] at hown
        have HO := Lib.hid hown
        clear hown
        go_wp2
        go_ret
        exact ⟨_, rfl, HO.out, hB⟩
set_option maxRecDepth 100000 in
set_option maxHeartbeats 2000000 in
theorem Tryd.marks_any (v : Value) (l : List Mk) (w : World) (hl : l.length ≤ 2000000) (hv : HasDiags w v l) :
    Calls Tryd.prog 26 #[v] w fun e w' => ∃ v', e = .returned v' ∧ w'.ownsRow w.heap.size 47 2 v' l.length (cellsOf l) ∧ Below w.heap.size w w' := by
  obtain ⟨i0, hi, hz0, hz1, hz2⟩ := info_parts Tryd.info47
  have HI := Lib.hid hi
  rcases hv with ⟨rfl, ao, cap, rfl⟩ | ⟨b, off, cap, rfl, hlc, hcm, hd⟩
  · obtain ⟨M, hM, hmk⟩ := made_any 45 47 Tryd.underlying45 Tryd.info47 1 (by omega)
    have hmk' : ∀ w : World, (Instr.makeSlice 45 (.int .i64 0) (.int .i64 1)).run Tryd.prog w = .ok (.slice (some ⟨w.heap.size, 0, none⟩) 0 1) (w.alloc (.cells M 47)) := hmk
    clear hmk hl hi
    go_enter Tryd.func26, Tryd.ntmps26
    go_wp2
    go_loopw [3, 5, 12] (fun v' _d i wr => i = .int .i64 0 ∧ wr.ownsRow w.heap.size 47 2 v' 0 [] ∧ Below w.heap.size w wr) (fun _ _ _ _ => 0)
    case atStart => exact ⟨rfl, World.ownsRow_made w _ 1 (Nat.le_refl _) (by unfold maxLen; omega) hM, (Below.refl _ w).alloc (Nat.le_refl _) _⟩
    case round =>
      obtain ⟨rfl, hown, hB⟩ := hrel
      have HO := Lib.hid hown
      clear hown
      go_wp2
      go_ret
      exact ⟨_, rfl, HO.out, hB⟩
  · obtain ⟨M, hM, hmk⟩ := made_any 45 47 Tryd.underlying45 Tryd.info47 (l.length + 1) (by omega)
    have hmk' : ∀ w : World, (Instr.makeSlice 45 (.int .i64 0) (.int .i64 ((l.length : Int) + 1))).run Tryd.prog w = .ok (.slice (some ⟨w.heap.size, 0, none⟩) 0 (l.length + 1)) (w.alloc (.cells M 47)) := hmk
    have HD := Lib.hid hd
    have hbl := hd.1
    unfold maxLen at hcm
    clear hd hi hmk
    go_enter Tryd.func26, Tryd.ntmps26
    go_wp2
    go_loopw [3, 5, 12] (fun v' _d i wr => ∃ k : Nat, k ≤ l.length ∧ i = .int .i64 (k : Int) ∧ wr.ownsRow w.heap.size 47 2 v' k (cellsOf (l.take k)) ∧ Below w.heap.size w wr) (fun _ _ i _ => l.length - (intOf i).toNat)
    case atStart => exact ⟨0, Nat.zero_le _, rfl, World.ownsRow_made w _ (l.length + 1) (Nat.le_refl _) (by unfold maxLen; omega) hM, (Below.refl _ w).alloc (Nat.le_refl _) _⟩
    case round =>
      obtain ⟨k, hk, rfl, hown, hB⟩ := hrel
      have hB1 : w.heap.size ≤ wr.heap.size := hB.size
      have hml : k + 1 ≤ maxLen := by unfold maxLen; omega
      have hml2 : (k + 1) * 16 ≤ 140737488355328 := by omega
      by_cases hlt : k < l.length
      · obtain ⟨p, hp⟩ : ∃ p, l[k]? = some p := ⟨_, List.getElem?_eq_getElem hlt⟩
        obtain ⟨x0, x1⟩ := HD.out.read hp
        replace x0 := (hB.cell (p := ⟨b, off + k * 2, none⟩) hbl).trans x0
        replace x1 := (hB.cell (p := ⟨b, off + k * 2 + 1, none⟩) hbl).trans x1
        have HT := Lib.hid (take_get hp)
        have hbr : b < wr.heap.size := Nat.lt_of_lt_of_le hbl hB1
        clear hp
        go_wp2_with (at_builtin; refine wpList_append_own _ rfl _ _ 45 rfl w.heap.size 47 i0 (.agg #[.int .i64 0, .int .i64 0]) 2 16 Tryd.underlying45 HI.out hz0 hz1 hz2 rfl (by decide) _ _ _ rfl ((hown.alloc _).alloc _) ⟨wr.heap.size + 1, 0, none⟩ 1 1 [.int .i64 p.1, .int .i64 p.2] rfl rfl (cells_new2' (by simp)) (by simp [Value.oneCell']) hml hml2 (by simp; omega) ?_; intro v' w1 hown' hgrow _)
        go_roundw
        case rel => exact ⟨k + 1, by omega, by go_num, by rw [HT.out, cells_append]; exact hown', grown_below (hB.alloc hB1 _) (by simp; omega) (hown.alloc _) hgrow⟩
        case measure => simp [intOf]; omega
      · have hkk : k = l.length := by omega
        subst hkk
        rw [List.take_length] at hown
        have HO := Lib.hid hown
        clear hown
        go_wp2
        go_ret
        exact ⟨_, rfl, HO.out, hB⟩
#print axioms Tryd.diags_any
#print axioms Tryd.marks_any
end Go.Proofs
