/- slices.Insert as this program calls it, where there is no room; all its ways in one. Conditions: at most a million. -/
import Derived.Test.YtgapefkoemofcaaDoorInsert
namespace Go
theorem splice_fill {α : Type} (L A T C ys : List α) (hL : L = A ++ T) : splice (splice L A.length ys) (A.length + ys.length) C = A ++ (ys ++ (C ++ T.drop (ys.length + C.length))) := by
  subst hL
  unfold splice
  have e1 : (A ++ T).take A.length = A := by simp
  have e2 : (A ++ T).drop (A.length + ys.length) = T.drop ys.length := by rw [List.drop_append]; simp
  rw [e1, e2]
  have e3 : (A ++ (ys ++ T.drop ys.length)).take (A.length + ys.length) = A ++ ys := by
    rw [← List.append_assoc]; exact List.take_left' (by simp)
  have e4 : (A ++ (ys ++ T.drop ys.length)).drop (A.length + ys.length + C.length) = T.drop (ys.length + C.length) := by
    rw [← List.append_assoc, show A.length + ys.length + C.length = (A ++ ys).length + C.length from by simp, List.drop_append]; simp
  rw [e3, e4]; simp
end Go
namespace Go.Proofs
open Go.RowKit Go.Dg Go.Lib
attribute [local go_sem] Oper.semAt_some
set_option maxRecDepth 100000 in
set_option maxHeartbeats 4000000 in
/-- Ahead of others, and there is no room. -/
theorem Tryd.insert_grow (base g cap i : Nat) (cur : List Value) (l : List Mk) (d : Mk) (vb : Nat) (w : World) (hl : l.length ≤ 1000000) (hi : i < l.length) (hnc : l.length ≤ cap) (hroom : cap < l.length + 1) (hb : base ≤ w.heap.size)
    (hg : w.heap[g]? = some (.cells cur.toArray 47 (0, 0))) (htk : cur.take (l.length * 2) = cellsOf l) (hvb : w.heap[vb]? = some (.cells #[.int .i64 d.1, .int .i64 d.2] 47 (0, 0))) :
    Calls Tryd.prog 32 #[.slice (some ⟨g, 0, none⟩) l.length cap, .int .i64 (i : Nat), .slice (some ⟨vb, 0, none⟩) 1 1] w fun e w' => ∃ v', e = .returned v' ∧ w'.ownsRow base 47 2 v' (l.length + 1) (cellsOf (l.take i ++ d :: l.drop i)) ∧ Below base w w' := by
  obtain ⟨i0, hi0, hz0, hzs, hzb⟩ := info_parts Tryd.info47
  obtain ⟨n, hn⟩ : ∃ n, n = l.length := ⟨_, rfl⟩
  obtain ⟨A, hA⟩ : ∃ A, A = cellsOf (l.take i) := ⟨_, rfl⟩
  obtain ⟨C, hC⟩ : ∃ C, C = cellsOf (l.drop i) := ⟨_, rfl⟩
  have hAl : A.length = i * 2 := by rw [hA, cells_len, List.length_take, Nat.min_eq_left (by omega)]
  have hCl : C.length = (n - i) * 2 := by rw [hC, cells_len, List.length_drop, hn]
  have hAC : A ++ C = cellsOf l := by rw [hA, hC, ← cells_append, List.take_append_drop]
  have hcur : cur = A ++ (C ++ cur.drop (n * 2)) := by rw [← List.append_assoc, hAC, ← htk, hn, List.take_append_drop]
  have hC1 : ∀ v ∈ C, v.oneCell' = true := by rw [hC]; exact cells_one _
  have hend : cellsOf (l.take i ++ d :: l.drop i) = A ++ ([.int .i64 d.1, .int .i64 d.2] ++ C) := by rw [hA, hC, cells_append]; rfl
  rw [hend, ← hn]
  rw [← hn] at hl hi hroom hnc
  clear hend hAC hA hC htk hn
  have hgc : ∀ j v, cur[j]? = some v → w.cell? ⟨g, j, none⟩ = some v := by
    intro j v hj
    unfold World.cell?
    simp only [hg]
    rw [List.getElem?_toArray]; exact hj
  have hglt : g < w.heap.size := (Array.getElem?_eq_some_iff.1 hg).1
  have hvlt : vb < w.heap.size := (Array.getElem?_eq_some_iff.1 hvb).1
  have hold : (Builtin.firstCells i0.size i (.slice (some ⟨g, 0, none⟩) i cap)).run Tryd.prog w.drew = .ok A.toArray w.drew := by
    rw [hzs]
    exact run_firstCells_some w.drew 2 i ⟨g, 0, none⟩ i cap A (by rw [hAl]) (fun j v hj => by
      rw [Addr.add_lit, Nat.zero_add]
      exact hgc j v (by rw [hcur, List.getElem?_append_left (List.getElem?_eq_some_iff.1 hj).1]; exact hj))
  have hik : i + (n + 1 - i) = n + 1 := by omega
  have hkk : (n : Int) + 1 - (i : Int) = ((n + 1 - i : Nat) : Int) := by omega
  obtain ⟨G, hG⟩ : ∃ G, G = grownCap w (n + 1) cap 47 := ⟨_, rfl⟩
  have hGn : n + 1 ≤ G := by rw [hG]; exact grownCap_ge w _ _ _
  have hGm : G ≤ maxLen := by rw [hG]; exact grownCap_le_maxLen w (n + 1) cap 47 (by unfold maxLen; omega)
  obtain ⟨T, hT⟩ : ∃ T : List Value, T = (Builtin.zeroCells (Value.agg #[.int .i64 0, .int .i64 0]).cells (n + 1 - i) ++ Builtin.zeroCells (Value.agg #[.int .i64 0, .int .i64 0]).cells (G - (n + 1))).toList := ⟨_, rfl⟩
  have hzc : ∀ k, (Builtin.zeroCells (Value.agg #[.int .i64 0, .int .i64 0]).cells k).size = k * 2 := by
    intro k
    simp [Builtin.zeroCells, Value.cells]
  have hTl : T.length = (G - i) * 2 := by rw [hT, Array.length_toList, Array.size_append, hzc, hzc]; omega
  have hrz : ∀ ty, (Builtin.append_ #[45, 3] ty #[.slice (some ⟨g, 0, none⟩) i cap, .int .i64 ((n : Int) + 1 - (i : Int))]).run Tryd.prog w =
      .ok (.slice (some ⟨w.heap.size, 0, none⟩) (n + 1) G) (w.drew.alloc (.cells (A ++ T).toArray 47)) := fun ty => by
    have h := Lib.run_append_grow_zeros w 45 3 ty 47 i0 _ .i64 .i64 Tryd.underlying45 Tryd.underlying3 hi0 hz0 (some ⟨g, 0, none⟩) i cap A hold (n + 1 - i) (by omega) (by omega) (by omega) (by omega) (by rw [hzb]; omega) (by rw [hzb, hik]; exact growslice_fits hroom (by omega))
    rw [hik, ← hG] at h
    rw [hkk, h, hT]
    congr 2
    simp
  obtain ⟨ROW, hROW⟩ : ∃ ROW, ROW = A ++ T := ⟨_, rfl⟩
  rw [← hROW] at hrz
  have hRl : ROW.length = G * 2 := by rw [hROW, List.length_append, hAl, hTl]; omega
  have hnew : (w.alloc (.cells ROW.toArray 47)).heap[w.heap.size]? = some (.cells ROW.toArray 47 (0, 0)) := World.alloc_heap_new w _
  have hold2 : ∀ k, k < w.heap.size → (w.alloc (.cells ROW.toArray 47)).heap[k]? = w.heap[k]? := fun k hk => ((Below.refl w.heap.size w).alloc (Nat.le_refl _) (.cells ROW.toArray 47)).block k hk
  have HV : Hid (∀ j v, [Value.int .i64 d.1, .int .i64 d.2][j]? = some v → (w.alloc (.cells ROW.toArray 47)).cell? ((⟨vb, 0, none⟩ : Addr).add j) = some v) := by
    intro j u h
    rw [Addr.add_lit]
    unfold World.cell?
    simp only [hold2 vb hvlt, hvb]
    rcases j with _ | _ | j
    · simpa using h
    · simpa using h
    · simp at h
  have HS : Hid (∀ j v, C[j]? = some v → (w.alloc (.cells ROW.toArray 47)).cell? ((⟨g, i * 2, none⟩ : Addr).add j) = some v) := by
    intro j v hj
    rw [Addr.add_lit]
    unfold World.cell?
    simp only [hold2 g hglt, hg]
    rw [List.getElem?_toArray, hcur, ← hAl, List.getElem?_append_right (by omega), Nat.add_sub_cancel_left, List.getElem?_append_left (List.getElem?_eq_some_iff.1 hj).1]
    exact hj
  have HN := Lib.hid hnew
  have HR := Lib.hid hROW
  have HRl := Lib.hid hRl
  have HAl := Lib.hid hAl
  have HCl := Lib.hid hCl
  have HTl := Lib.hid hTl
  have HC1 := Lib.hid hC1
  have HRZ := Lib.hid hrz
  have hB1 : Below base w (w.alloc (.cells ROW.toArray 47)) := (Below.refl base w).alloc hb _
  have hz2 : ¬ ((i : Int) = (n : Int)) := by omega
  have hz3 : (cap : Int) < (n : Int) + 1 := by omega
  have hw1 : IntKind.i64.wrap ((i : Int) + 1) = (i : Int) + 1 := by rw [IntKind.wrap_i64]; omega
  have hb1 : (0 : Int) ≤ (i : Int) + 1 := by omega
  have htn : ((i : Int) + 1).toNat = i + 1 := by omega
  have hin : i ≤ n := by omega
  have hb3 : (i : Int) ≤ (n : Int) := by omega
  have hG63 : G ≤ 9223372036854775807 := by unfold maxLen at hGm; omega
  have hGi : ¬ (G = i) := by omega
  have hGim : ¬ (G = i + 1) := by omega
  have hci : ¬ (cap = i) := by omega
  have hgN : g ≠ w.heap.size := by omega
  have hmx : Tryd.prog.follows .mixedOrders = true := by kernel_rfl
  clear hg hvb hcur hAl hCl hTl hC1 hold hgc hold2 hnew hRl hROW hrz hzc hT hkk hik hi0 hz0 hzs hzb hG hvlt
  have hGmH := Lib.hid hGm
  clear hGm
  go_enter Tryd.func32, Tryd.ntmps32
  go_wp2_with (first
    | (at_builtin; refine Lib.wpList_append_run _ rfl _ _ _ _ rfl _ _ rfl rfl _ _ (HRZ.out _) ?_)
    | (refine wpList_copyK rfl (.tmp 43) (.tmp 44) 45 45 rfl 47 2 Tryd.underlying45 Tryd.size47 (n + 1 - i) (G - i) 1 1 w.heap.size (i * 2) ⟨vb, 0, none⟩ rfl rfl ROW 47 HN.out [.int .i64 d.1, .int .i64 d.2] (by simp only [Nat.min_def]; rw [if_pos (by omega)]; rfl) HV.out (by rw [HRl.out]; simp; omega) (by simp [Value.oneCell']) base w hB1.drew hb ?_; intro w2 hg2 hB2 hk2))
  have HS2 : Hid (∀ j v, C[j]? = some v → w2.drew.cell? ((⟨g, i * 2, none⟩ : Addr).add j) = some v) := by
    intro j v hj
    have := HS.out j v hj
    rw [Addr.add_lit] at this ⊢
    rw [← this]
    show w2.cell? _ = _
    unfold World.cell?
    rw [hk2 g hgN]; rfl
  clear hk2
  go_region_law_o (refine step_copyK rfl _ _ 45 45 rfl 47 2 Tryd.underlying45 Tryd.size47 (n - i) (G - (i + 1)) (n - i) (cap - i) w.heap.size ((i + 1) * 2) ⟨g, i * 2, none⟩ (by simp [Act.eval, Act.put]) (by simp [Act.eval, Act.put]) (splice ROW (i * 2) [.int .i64 d.1, .int .i64 d.2]) 47 hg2.out C (by rw [HCl.out]; congr 1; simp) HS2.out (by rw [HCl.out, length_splice _ _ _ (by rw [HRl.out]; simp; omega), HRl.out]; omega) HC1.out base w hB2.drew hb ?_; intro w3 hg3 hB3 _)
  go_wp2
  go_ret
  have hlen : (splice (splice ROW (i * 2) [.int .i64 d.1, .int .i64 d.2]) ((i + 1) * 2) C).length = G * 2 := by
    rw [length_splice _ _ _ (by rw [HCl.out, length_splice _ _ _ (by rw [HRl.out]; simp; omega), HRl.out]; omega), length_splice _ _ _ (by rw [HRl.out]; simp; omega), HRl.out]
  refine ⟨_, rfl, ⟨?_, .inr ⟨w.heap.size, G, _, rfl, hb, hg3.out, hGn, hGmH.out, by rw [List.size_toArray, hlen], ?_⟩⟩, hB3⟩
  · simp only [List.length_append, HAl.out, HCl.out, List.length_cons]; omega
  · have e := splice_fill ROW A T C [.int .i64 d.1, .int .i64 d.2] HR.out
    rw [HAl.out] at e
    rw [show (i + 1) * 2 = i * 2 + [Value.int .i64 d.1, .int .i64 d.2].length from by simp; omega, e, ← List.append_assoc [_, _] C, ← List.append_assoc A]
    exact List.take_left' (by simp only [List.length_append, HAl.out, HCl.out, List.length_cons, List.length_nil]; omega)
#print axioms Tryd.insert_grow

/-- One put into a list of the call's own, anywhere. -/
theorem Tryd.insert_any (base : Nat) (v : Value) (l : List Mk) (d : Mk) (i vb : Nat) (w : World) (hl : l.length ≤ 1000000) (hi : i ≤ l.length) (hown : w.ownsRow base 47 2 v l.length (cellsOf l)) (hvb : w.heap[vb]? = some (.cells #[.int .i64 d.1, .int .i64 d.2] 47 (0, 0))) (hne : ∀ g, v.ownBlock = some g → vb ≠ g) (hb : base ≤ w.heap.size) :
    Calls Tryd.prog 32 #[v, .int .i64 (i : Nat), .slice (some ⟨vb, 0, none⟩) 1 1] w fun e w' => ∃ v', e = .returned v' ∧ w'.ownsRow base 47 2 v' (l.length + 1) (cellsOf (l.take i ++ d :: l.drop i)) ∧ Below base w w' := by
  by_cases h : i = l.length
  · subst h
    have h2 : Two w vb (.int .i64 d.1) (.int .i64 d.2) := ⟨(Array.getElem?_eq_some_iff.1 hvb).1, by simp [World.cell?, hvb], by simp [World.cell?, hvb]⟩
    refine (Tryd.insert_end base v l d vb w hl hown h2 hb).mono ?_
    rintro e w' ⟨v', he, h3, h4⟩
    refine ⟨v', he, by rw [List.take_length, List.drop_length]; exact h3, (Below.refl _ _).grown h4 hb ?_⟩
    intro k hk
    rcases hown.2 with ⟨rfl, _⟩ | ⟨g, cap, cur, rfl, hbg, _⟩
    · simp [Value.ownBlock] at hk
    · simp [Value.ownBlock] at hk; omega
  · obtain ⟨g, cap, cur, rfl, hbg, hg, hnc, hcm, hcs, htk⟩ := ownsRow_some hown (by omega)
    have hg' : w.heap[g]? = some (.cells cur.toList.toArray 47 (0, 0)) := by simpa using hg
    by_cases hroom : l.length + 1 ≤ cap
    · refine (Tryd.insert_shift base g cap i cur.toList l d vb w hl (by omega) hroom hcm hbg hg' (by simpa using hcs) htk hvb (hne g rfl)).mono ?_
      rintro e w' ⟨he, ⟨cur', h1, h2, h3⟩, h4⟩
      exact ⟨_, he, ⟨by rw [cells_len]; simp; omega, .inr ⟨g, cap, cur', rfl, hbg, h1, hroom, hcm, h2, h3⟩⟩, h4⟩
    · exact Tryd.insert_grow base g cap i cur.toList l d vb w hl (by omega) hnc (by omega) hb hg' htk hvb
end Go.Proofs
