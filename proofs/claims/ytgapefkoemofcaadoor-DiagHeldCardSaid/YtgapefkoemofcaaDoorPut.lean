/- diag's put, marks and diags. Conditions: a sorted list of at most 16 (put); at most two million (the others). -/
import Derived.Test.YtgapefkoemofcaaDoorSearch
import Derived.Test.YtgapefkoemofcaaDoorInsert2
import Derived.Test.YtgapefkoemofcaaDoorSeq
namespace Go
open Go.RowKit
theorem ownsRow_below {w w' : World} {base : Nat} {e : TypeId} {size : Nat} {v : Value} {k : Nat} {xs : List Value} {n₀ : Nat} (h : w.ownsRow base e size v k xs) (hb : Below n₀ w w') (hn : w.heap.size ≤ n₀) : w'.ownsRow base e size v k xs :=
  h.kept (hb.grownBy hn) (by cases v.ownBlock <;> simp)
theorem ownsRow_base {w : World} {base base' : Nat} {e : TypeId} {size : Nat} {v : Value} {k : Nat} {xs : List Value} (h : w.ownsRow base e size v k xs) (hb : base' ≤ base) : w.ownsRow base' e size v k xs := by
  refine ⟨h.1, h.2.imp id ?_⟩
  rintro ⟨g, cap, cur, h1, h2, h3⟩
  exact ⟨g, cap, cur, h1, Nat.le_trans hb h2, h3⟩
theorem ownsRow_lt {w : World} {base : Nat} {e : TypeId} {size : Nat} {v : Value} {k : Nat} {xs : List Value} (h : w.ownsRow base e size v k xs) : ∀ g, v.ownBlock = some g → g < w.heap.size := by
  intro g hg
  rcases h.2 with ⟨rfl, _⟩ | ⟨g', cap, cur, rfl, _, hgg, _⟩
  · simp [Value.ownBlock] at hg
  · have e' : g' = g := by simpa [Value.ownBlock] using hg
    subst e'; exact (Array.getElem?_eq_some_iff.1 hgg).1
end Go
namespace Go.Proofs
open Go.RowKit Go.Dg
attribute [local go_sem] Oper.semAt_some
attribute [local go_sem ↓] Go.wp_at_zero Go.wp_at_succ

theorem has_of_owns {w : World} {base : Nat} {e : TypeId} {v : Value} {l : List Mk} (h : w.ownsRow base e 2 v l.length (cellsOf l)) : HasDiags w v l := by
  rcases h.2 with ⟨rfl, h0⟩ | ⟨g, cap, cur, rfl, _, hg, hnc, hcm, hcs, htk⟩
  · exact .inl ⟨List.length_eq_zero_iff.1 h0, none, 0, rfl⟩
  · refine .inr ⟨g, 0, cap, rfl, hnc, hcm, (Array.getElem?_eq_some_iff.1 hg).1, fun i a c hi => ?_⟩
    have hlt : i < l.length := (List.getElem?_eq_some_iff.1 hi).1
    obtain ⟨h1, h2⟩ := cells_get hi
    rw [← htk, List.getElem?_take, if_pos (by omega)] at h1 h2
    unfold World.cell?
    simp only [hg, Nat.zero_add]
    simp at h1 h2
    exact ⟨h1, h2⟩

set_option maxRecDepth 100000 in
set_option maxHeartbeats 2000000 in
theorem Tryd.put_any (base : Nat) (v : Value) (l : List Mk) (d : Mk) (w : World) (hs : Srt l) (hl : l.length ≤ 16) (hown : w.ownsRow base 47 2 v l.length (cellsOf l)) (hb : base ≤ w.heap.size) :
    Calls Tryd.prog 23 #[v, .agg #[.int .i64 d.1, .int .i64 d.2]] w fun e w' => ∃ v', e = .returned v' ∧ w'.ownsRow base 47 2 v' (putS l d).length (cellsOf (putS l d)) ∧ Below base w w' := by
  obtain ⟨B, hB⟩ : ∃ B, B = below l d := ⟨_, rfl⟩
  have hN := below_le l d
  rw [← hB] at hN
  have HI : Hid (∀ (V : World) (vb : Nat), V.ownsRow base 47 2 v l.length (cellsOf l) → V.heap[vb]? = some (.cells #[.int .i64 d.1, .int .i64 d.2] 47 (0, 0)) → (∀ g, v.ownBlock = some g → vb ≠ g) → base ≤ V.heap.size → Calls Tryd.prog 32 #[v, .int .i64 (B : Nat), .slice (some ⟨vb, 0, none⟩) 1 1] V fun e w' => ∃ v', e = .returned v' ∧ w'.ownsRow base 47 2 v' (l.length + 1) (cellsOf (l.take B ++ d :: l.drop B)) ∧ Below base V w') :=
    fun V vb h1 h2 h3 h4 => Tryd.insert_any base v l d B vb V (by omega) hN h1 h2 h3 h4
  have HC : Hid (∀ V : World, V.ownsRow base 47 2 v l.length (cellsOf l) → Calls Tryd.prog 31 #[v, .agg #[.int .i64 d.1, .int .i64 d.2], .func (.func 25) #[] #[]] V fun e w' =>
      e = .returned (.tuple #[.int .i64 (B : Nat), .bool (decide (l[B]? = some d))]) ∧ Below V.heap.size V w') := by
    intro V hV
    rcases has_of_owns hV with ⟨rfl, ao, cap, rfl⟩ | ⟨b, off, cap, rfl, _, _, hd⟩
    · have e : B = 0 := by rw [hB]; rfl
      rw [e]
      exact Tryd.search_none ao cap d V
    · rw [hB]
      exact Tryd.search_some b off cap l d hs (by omega) V hd
  have HO := Lib.hid hown
  by_cases hf : l[B]? = some d
  · have hP : putS l d = l := putS_there (by rw [← hB]; exact hf) hl
    rw [hP]
    have HD : Hid (decide (l[B]? = some d) = true) := decide_eq_true hf
    rw [HD.out] at HC
    clear hP hf hB hN HI hown
    go_enter Tryd.func23, Tryd.ntmps23
    go_wp2_with (go_at_call 31; (with_reducible refine (HC.out _ (HO.out.alloc _)).mono ?_); rintro e w2 ⟨rfl, hb2⟩)
    go_ret
    exact ⟨v, rfl, ownsRow_below (HO.out.alloc _) hb2 (Nat.le_refl _), ((Below.refl base w).alloc hb _).trans (hb2.mono (by simp; omega))⟩
  · have hP : putS l d = (l.take B ++ d :: l.drop B).take 16 := by rw [hB]; exact putS_new (by rw [← hB]; exact hf)
    obtain ⟨L, hL⟩ : ∃ L, L = l.take B ++ d :: l.drop B := ⟨_, rfl⟩
    have hLl : L.length = l.length + 1 := by rw [hL]; simp; omega
    rw [hP, ← hL]
    rw [← hL, ← hLl] at HI
    have HD : Hid (decide (l[B]? = some d) = false) := decide_eq_false hf
    rw [HD.out] at HC
    have hL17 : L.length ≤ 17 := by omega
    have hL1 : 1 ≤ L.length := by omega
    clear hP hf hB hN hown hL
    have hlt := ownsRow_lt HO.out
    have HT := Lib.hid hlt
    have HLl := Lib.hid hLl
    clear hlt hLl
    go_enter Tryd.func23, Tryd.ntmps23
    go_wp2_with (first
      | (go_at_call 31; (with_reducible refine (HC.out _ (HO.out.alloc _)).mono ?_); rintro e w2 ⟨rfl, hb2⟩; have ho2 := Lib.hid (ownsRow_below (HO.out.alloc (.cells #[.int .i64 d.1, .int .i64 d.2] 47)) hb2 (Nat.le_refl _)); have hB2 := ((Below.refl base w).alloc hb (.cells #[.int .i64 d.1, .int .i64 d.2] 47)).trans (hb2.mono (by simp; omega)); have T2 := (Two.new w (.int .i64 d.1) (.int .i64 d.2) 47).next hb2; have c0 := T2.2.1; have c1 := T2.2.2; have hs2 : base ≤ w2.heap.size := Nat.le_trans hb hB2.size)
      | (go_at_call 32; (with_reducible refine Calls.mono (HI.out _ _ (ho2.out.alloc _) (World.alloc_heap_new w2 _) (fun g hg => by have h1 := HT.out g hg; have h2 := hB2.size; omega) (by simp; omega)) ?_); rintro e w3 ⟨v', rfl, ho3, hb3⟩; obtain ⟨g, cap, cur, rfl, hbg, hgg, hnc, hcm, hcs, htk⟩ := ownsRow_some ho3 (by omega); have H3 := Lib.hid ho3; have HGG := Lib.hid hgg; have HCS := Lib.hid hcs; have HTK := Lib.hid htk; have hc63 : cap ≤ 9223372036854775807 := (by unfold maxLen at hcm; omega); clear ho3 hgg hcs htk))
    go_ret
    have hm : (min (L.length : Int) 16).toNat = (L.take 16).length := by rw [List.length_take]; omega
    refine ⟨_, rfl, ⟨cells_len _, .inr ⟨g, cap, cur, by rw [hm]; rfl, hbg, HGG.out, by rw [List.length_take]; omega, hcm, HCS.out, ?_⟩⟩, (hB2.alloc hs2 _).trans hb3⟩
    rw [← cells_take 16 L, ← HTK.out, List.take_take, List.length_take]
    congr 1
    omega
#print axioms Tryd.put_any
end Go.Proofs
