/- diag.Put and diag.All. Conditions: a sorted list of at most 16 (Put); at most two million in all (All). -/
import Derived.Test.YtgapefkoemofcaaDoorSorted
namespace Go.Proofs
open Go.RowKit Go.Dg
attribute [local go_sem] Oper.semAt_some
attribute [local go_sem ↓] Go.wp_at_zero Go.wp_at_succ

theorem HasDiags.drew {W : World} {v : Value} {l : List Mk} (h : HasDiags W v l) : HasDiags W.drew v l := h
theorem owns_drew {W : World} {base : Nat} {e : TypeId} {size : Nat} {v : Value} {k : Nat} {xs : List Value} (h : W.ownsRow base e size v k xs) : W.drew.ownsRow base e size v k xs := h
set_option maxRecDepth 100000 in
set_option maxHeartbeats 4000000 in
theorem Tryd.Put_any (v : Value) (l : List Mk) (d : Mk) (w : World) (hs : Srt l) (hl : l.length ≤ 16) (hv : HasDiags w v l) :
    Calls Tryd.prog 14 #[v, .agg #[.int .i64 d.1, .int .i64 d.2]] w fun e w' => ∃ v', e = .returned v' ∧ w'.ownsRow w.heap.size 25 2 v' (putS l d).length (cellsOf (putS l d)) ∧ Below w.heap.size w w' := by
  have HV := Lib.hid hv
  have HM : Hid (∀ W, HasDiags W v l → Calls Tryd.prog 26 #[v] W fun e w' => ∃ v', e = .returned v' ∧ w'.ownsRow W.heap.size 47 2 v' l.length (cellsOf l) ∧ Below W.heap.size W w') := fun W h => Tryd.marks_any v l W (by omega) h
  have HP : Hid (∀ v W base, W.ownsRow base 47 2 v l.length (cellsOf l) → base ≤ W.heap.size → Calls Tryd.prog 23 #[v, .agg #[.int .i64 d.1, .int .i64 d.2]] W fun e w' => ∃ v', e = .returned v' ∧ w'.ownsRow base 47 2 v' (putS l d).length (cellsOf (putS l d)) ∧ Below base W w') := fun v W base h1 h2 => Tryd.put_any base v l d W hs hl h1 h2
  have hpl := len_putS l d
  have HD : Hid (∀ v W, HasDiags W v (putS l d) → Calls Tryd.prog 24 #[v] W fun e w' => ∃ v', e = .returned v' ∧ w'.ownsRow W.heap.size 25 2 v' (putS l d).length (cellsOf (putS l d)) ∧ Below W.heap.size W w') := fun v W h => Tryd.diags_any v (putS l d) W (by omega) h
  have T := Two.new w (.int .i64 d.1) (.int .i64 d.2) 25
  have HV1 := Lib.hid (hv.next ((Below.refl _ w).alloc (Nat.le_refl _) (.cells #[.int .i64 d.1, .int .i64 d.2] 25)))
  have HB1 := Lib.hid ((Below.refl w.heap.size w).alloc (Nat.le_refl _) (.cells #[.int .i64 d.1, .int .i64 d.2] 25))
  clear hs hl hv hpl T
  go_enter Tryd.func14, Tryd.ntmps14
  go_wp2
  go_region_with (first
    | (go_at_call 26; (with_reducible refine Calls.mono (HM.out _ (by first | exact HV1.out | exact HV1.out.drew)) ?_); rintro e w2 ⟨v2, rfl, ho2, hb2⟩; have T2 : Two w2 w.heap.size (.int .i64 d.1) (.int .i64 d.2) := (by first | exact Two.next (Two.new w _ _ 25) hb2 | exact Two.next (Two.drew (Two.new w _ _ 25)) hb2); have c0 := T2.2.1; have c1 := T2.2.2; have hz3 : w.heap.size + 1 ≤ w2.heap.size := (by have := hb2.size; simpa using this); have O2 := Lib.hid (show w2.ownsRow (w.heap.size + 1) 47 2 v2 l.length (cellsOf l) by simpa using ho2); clear ho2)
    | (go_at_call 23; (with_reducible refine Calls.mono (HP.out _ _ (w.heap.size + 1) (by first | exact O2.out | exact owns_drew O2.out) hz3) ?_); rintro e w3 ⟨v3, rfl, ho3, hb3⟩)
    | (go_at_call 24; (with_reducible refine Calls.mono (HD.out _ _ (has_of_owns ho3)) ?_); rintro e w4 ⟨v4, rfl, ho4, hb4⟩))
  all_goals
    have hs3 : w.heap.size + 1 ≤ w3.heap.size := Nat.le_trans hz3 hb3.size
    have HO := Lib.hid ho4
    have b1 : Below w.heap.size w w2 := HB1.out.trans (by have h := hb2.mono (show w.heap.size ≤ _ by simp); first | exact h | exact Below.trans (Below.drew (Below.refl _ _)) h)
    have b2 := (b1.trans (hb3.mono (by omega))).trans (hb4.mono (by omega))
    clear ho4 ho3 hb2 hb3 hb4 c0 c1
    go_wp2
    go_ret
    exact ⟨_, rfl, ownsRow_base HO.out (by omega), b2⟩

/-- A slice of slices that read as ll. -/
def ListsAt (W : World) (b off : Nat) (ll : List (List Mk)) : Prop := b < W.heap.size ∧ ∀ i l, ll[i]? = some l → ∃ v, W.cell? ⟨b, off + i, none⟩ = some v ∧ HasDiags W v l
def HasLists (W : World) (v : Value) (ll : List (List Mk)) : Prop := (ll = [] ∧ ∃ ao cap, v = .slice ao 0 cap) ∨ ∃ b off cap, v = .slice (some ⟨b, off, none⟩) ll.length cap ∧ ll.length ≤ cap ∧ cap ≤ maxLen ∧ ListsAt W b off ll
theorem ListsAt.next {b off : Nat} {W W' : World} {ll : List (List Mk)} (h : ListsAt W b off ll) (hb : Below W.heap.size W W') : ListsAt W' b off ll := by
  refine ⟨Nat.lt_of_lt_of_le h.1 hb.size, fun i l hi => ?_⟩
  obtain ⟨v, h1, h2⟩ := h.2 i l hi
  exact ⟨v, (hb.cell (p := ⟨b, off + i, none⟩) h.1).trans h1, h2.next hb⟩
theorem HasLists.next {W W' : World} {v : Value} {ll : List (List Mk)} (h : HasLists W v ll) (hb : Below W.heap.size W W') : HasLists W' v ll := by
  rcases h with h | ⟨b, off, cap, h1, h2, h3, h4⟩
  · exact .inl h
  · exact .inr ⟨b, off, cap, h1, h2, h3, h4.next hb⟩
end Go.Proofs
