/- slices.Insert as this program calls it: one mark put into a slice of the call's own. Conditions: at most a million. The ways of the library's text go after the kit's own contracts at one cell. -/
import Derived.Test.YtgapefkoemofcaaDoorCmp
import Derived.Shelf.Spec.SlicesInsertGrow
import Derived.Laws.CopyRow
import Derived.Lib.AppendZerosOnto
import Derived.Lib.Overlaps
import Derived.Laws.AppendOwn
import Derived.Laws.CopyOwn
namespace Go
open Go.RowKit
/-- copy between slices of elements of several cells; all is read before anything is written. -/
theorem run_copy_rowK {P : Program} (w : World) (dT sT ty elem : TypeId) (K g o dLen dCap : Nat) (a : Addr) (sLen sCap : Nat) (cur : Array Value) (t : TypeId) (cs : List Value)
    (hu : P.underlying dT = some (.slice elem)) (hs : (P.info? elem).map (·.size) = some K)
    (hg : w.heap[g]? = some (.cells cur t (0, 0))) (hn : cs.length = Nat.min sLen dLen * K)
    (hsrc : ∀ j v, cs[j]? = some v → w.cell? (a.add j) = some v) (hfit : o + cs.length ≤ cur.size) (h1 : ∀ v ∈ cs, v.oneCell' = true) :
    (Builtin.copy_ #[dT, sT] ty #[.slice (some ⟨g, o, none⟩) dLen dCap, .slice (some a) sLen sCap]).run P w =
      .ok (goInt (Nat.min sLen dLen)) (w.setRow g (cur.toList.take o ++ cs ++ cur.toList.drop (o + cs.length)).toArray) := by
  have hl := run_loadCells_list (P := P) w a cs hsrc
  have hst := run_storeCells_at P g o t cs 0 cur w hg (by simpa using hfit) h1
  cases hq : P.info? elem with
  | none => simp [hq] at hs
  | some i =>
    have hi : i.size = K := by simpa [hq] using hs
    simp [Builtin.copy_, run_underlying hu, Builtin.lenOf, Builtin.firstCells, sizeOf, typeInfo, hq, hi, ← hn, hl, hst]
theorem ownsRow_some {w : World} {base : Nat} {e : TypeId} {size n : Nat} {v : Value} {xs : List Value} (h : w.ownsRow base e size v n xs) (hn : 0 < n) :
    ∃ g cap cur, v = .slice (some ⟨g, 0, none⟩) n cap ∧ base ≤ g ∧ w.heap[g]? = some (.cells cur e (0, 0)) ∧ n ≤ cap ∧ cap ≤ maxLen ∧ cur.size = cap * size ∧ cur.toList.take (n * size) = xs := by
  rcases h.2 with ⟨_, h0⟩ | h
  · omega
  · exact h
theorem below_setRow' {B g : Nat} (w : World) (hg : B ≤ g) (c : Array Value) : Below B w (w.setRow g c) := by
  refine ⟨rfl, rfl, rfl, by simp [World.setRow], fun k hk => ?_⟩
  simp only [World.setRow]
  rw [Array.getElem?_modify, if_neg (by omega)]
/-- copy as an operation of the walk, and as a step of a region that draws: elements of K cells; something goes over. The row behind it comes hidden. -/
theorem wpList_copyK {P : Program} {w : World} {ops : Array Oper} {rest : List Oper} {o : Oper} {a : Act} {Q : Exit → Act → World → Prop} (hgd : o.guard = none) (d s : Operand) (dT sT : TypeId)
    (ho : o.op = .call { callee := .builtin .copy, args := #[d, s], argTypes := #[dT, sT] }) (elem : TypeId) (K : Nat) (hu : P.underlying dT = some (.slice elem)) (hsz : (P.info? elem).map (·.size) = some K)
    (dLen dCap sLen sCap g off : Nat) (ad : Addr) (hd : a.eval d = .slice (some ⟨g, off, none⟩) dLen dCap) (hs : a.eval s = .slice (some ad) sLen sCap)
    (cur : List Value) (t : TypeId) (hg : w.heap[g]? = some (.cells cur.toArray t (0, 0))) (cs : List Value) (hn : cs.length = Nat.min sLen dLen * K)
    (hsrc : ∀ j v, cs[j]? = some v → w.cell? (ad.add j) = some v)
    (hfit : off + cs.length ≤ cur.length) (h1 : ∀ v ∈ cs, v.oneCell' = true) (B : Nat) (w0 : World) (hb : Below B w0 w) (hBg : B ≤ g)
    (h : ∀ w', Hid (w'.heap[g]? = some (.cells (splice cur off cs).toArray t (0, 0))) → Below B w0 w' → (∀ k, k ≠ g → w'.heap[k]? = w.heap[k]?) → wpList P ops Q rest (a.put o.dst (goInt (Nat.min sLen dLen))) w') :
    wpList P ops Q (o :: rest) a w := by
  refine wpList_plain hgd fun _ hK => ?_
  have hrun := run_copy_rowK (P := P) w dT sT o.type elem K g off dLen dCap ad sLen sCap cur.toArray t cs hu hsz hg hn hsrc (by simpa using hfit) h1
  unfold Oper.wp
  simp [execOp, ho, resolve, invoke, builtin, hd, hs, hrun, Result.andThen]
  exact hK _ _ (h _ (show _ = _ by simpa [splice] using setRow_heap w g _ _ t _ hg) (hb.trans (Go.below_setRow' w hBg _)) (fun k hk => setRow_other w g k _ hk))
theorem step_copyK {P : Program} {ops : Array Oper} {o : Oper} {a : Act} {w : World} {K' : Act → World → Prop} {Q : Exit → Act → World → Prop} {E : Prop} (hgd : o.guard = none) (d s : Operand) (dT sT : TypeId)
    (ho : o.op = .call { callee := .builtin .copy, args := #[d, s], argTypes := #[dT, sT] }) (elem : TypeId) (K : Nat) (hu : P.underlying dT = some (.slice elem)) (hsz : (P.info? elem).map (·.size) = some K)
    (dLen dCap sLen sCap g off : Nat) (ad : Addr) (hd : a.eval d = .slice (some ⟨g, off, none⟩) dLen dCap) (hs : a.eval s = .slice (some ad) sLen sCap)
    (cur : List Value) (t : TypeId) (hg : w.heap[g]? = some (.cells cur.toArray t (0, 0))) (cs : List Value) (hn : cs.length = Nat.min sLen dLen * K)
    (hsrc : ∀ j v, cs[j]? = some v → w.cell? (ad.add j) = some v)
    (hfit : off + cs.length ≤ cur.length) (h1 : ∀ v ∈ cs, v.oneCell' = true) (B : Nat) (w0 : World) (hb : Below B w0 w) (hBg : B ≤ g)
    (h : ∀ w', Hid (w'.heap[g]? = some (.cells (splice cur off cs).toArray t (0, 0))) → Below B w0 w' → (∀ k, k ≠ g → w'.heap[k]? = w.heap[k]?) → K' (a.put o.dst (goInt (Nat.min sLen dLen))) w') :
    if Region.wanted o (yielded ops a.tmps) = true then Oper.wp P o a w K' Q else E := by
  have hw : Region.wanted o (yielded ops a.tmps) = true := by simp [Region.wanted, hgd]
  rw [if_pos hw]
  have hrun := run_copy_rowK (P := P) w dT sT o.type elem K g off dLen dCap ad sLen sCap cur.toArray t cs hu hsz hg hn hsrc (by simpa using hfit) h1
  unfold Oper.wp
  simp [execOp, ho, resolve, invoke, builtin, hd, hs, hrun, Result.andThen]
  exact h _ (show _ = _ by simpa [splice] using setRow_heap w g _ _ t _ hg) (hb.trans (Go.below_setRow' w hBg _)) (fun k hk => setRow_other w g k _ hk)
/-- A row into which one was put: what stood from i on goes k further, then the new cells are laid. -/
theorem splice_shift {α : Type} (L A C S ys : List α) (hL : L = A ++ (C ++ S)) (hS : ys.length ≤ S.length) : splice (splice L (A.length + ys.length) C) A.length ys = A ++ (ys ++ (C ++ S.drop ys.length)) := by
  subst hL
  unfold splice
  have e1 : (A ++ (C ++ S)).take (A.length + ys.length) = A ++ (C ++ S).take ys.length := by rw [List.take_append]; simp [List.take_of_length_le]
  have e2 : (A ++ (C ++ S)).drop (A.length + ys.length + C.length) = S.drop ys.length := by
    rw [show A.length + ys.length + C.length = (A ++ C).length + ys.length from by simp; omega, ← List.append_assoc, List.drop_append]; simp
  rw [e1, e2]
  have e3 : (A ++ (C ++ S).take ys.length ++ (C ++ S.drop ys.length)).take A.length = A := by rw [List.append_assoc]; simp
  have e4 : (A ++ (C ++ S).take ys.length ++ (C ++ S.drop ys.length)).drop (A.length + ys.length) = C ++ S.drop ys.length := by
    rw [show A.length + ys.length = (A ++ (C ++ S).take ys.length).length from by simp; omega]; simp
  rw [e3, e4]
end Go
namespace Go.Proofs
open Go.RowKit Go.Dg
attribute [local go_sem] Oper.semAt_some
theorem Tryd.info47 : (Tryd.prog.info? 47).map (fun i => (i.zero, i.size, i.bytes)) = some (some (.agg #[.int .i64 0, .int .i64 0]), 2, 16) := by kernel_rfl

set_option maxRecDepth 100000 in
set_option maxHeartbeats 2000000 in
/-- At the end: append. -/
theorem Tryd.insert_end (base : Nat) (v : Value) (l : List Mk) (d : Mk) (vb : Nat) (w : World) (hl : l.length ≤ 1000000) (hown : w.ownsRow base 47 2 v l.length (cellsOf l)) (hvb : Two w vb (.int .i64 d.1) (.int .i64 d.2)) (hb : base ≤ w.heap.size) :
    Calls Tryd.prog 32 #[v, .int .i64 (l.length : Nat), .slice (some ⟨vb, 0, none⟩) 1 1] w fun e w' => ∃ v', e = .returned v' ∧ w'.ownsRow base 47 2 v' (l.length + 1) (cellsOf (l ++ [d])) ∧ w.grownBy w' v.ownBlock := by
  obtain ⟨i0, hi, hz0, hz1, hz2⟩ := info_parts Tryd.info47
  have HI := Lib.hid hi
  have hml : l.length + 1 ≤ maxLen := by unfold maxLen; omega
  have hml2 : (l.length + 1) * 16 ≤ 140737488355328 := by omega
  have hnews : ∀ j u, [Value.int .i64 d.1, .int .i64 d.2][j]? = some u → w.cell? ((⟨vb, 0, none⟩ : Addr).add j) = some u := by
    intro j u h
    rcases j with _ | _ | j
    · have e : Value.int .i64 d.1 = u := by simpa using h
      subst e; exact hvb.2.1
    · have e : Value.int .i64 d.2 = u := by simpa using h
      subst e; exact hvb.2.2
    · simp at h
  have HN := Lib.hid hnews
  clear hi hnews hvb
  rcases hown.2 with ⟨rfl, h0⟩ | ⟨g, cap, cur, rfl, hbg, hg, hnc, hcm, hcs, htk⟩
  · have HO := Lib.hid hown
    clear hown
    rw [h0] at hml hml2 ⊢
    have HL := Lib.hid (List.length_eq_zero_iff.1 h0)
    rw [h0] at HO
    clear h0 hl
    go_enter Tryd.func32, Tryd.ntmps32
    go_wp2_with (at_builtin; refine wpList_append_own _ rfl _ _ 45 rfl base 47 i0 (.agg #[.int .i64 0, .int .i64 0]) 2 16 Tryd.underlying45 HI.out hz0 hz1 hz2 rfl (by decide) _ 0 _ rfl HO.out ⟨vb, 0, none⟩ 1 1 [.int .i64 d.1, .int .i64 d.2] rfl rfl HN.out (by simp [Value.oneCell']) hml hml2 hb ?_; intro v' w1 hown' hgrow _)
    go_ret
    exact ⟨_, rfl, by rw [HL.out] at hown' ⊢; exact hown', hgrow⟩
  · have HO := Lib.hid hown
    clear hown hbg hg hcs htk
    unfold maxLen at hcm
    go_enter Tryd.func32, Tryd.ntmps32
    go_wp2_with (at_builtin; refine wpList_append_own _ rfl _ _ 45 rfl base 47 i0 (.agg #[.int .i64 0, .int .i64 0]) 2 16 Tryd.underlying45 HI.out hz0 hz1 hz2 rfl (by decide) _ _ _ rfl HO.out ⟨vb, 0, none⟩ 1 1 [.int .i64 d.1, .int .i64 d.2] rfl rfl HN.out (by simp [Value.oneCell']) hml hml2 hb ?_; intro v' w1 hown' hgrow _)
    all_goals
      go_ret
      exact ⟨_, rfl, by rw [cells_append]; exact hown', hgrow⟩
theorem Tryd.size47 : (Tryd.prog.info? 47).map (·.size) = some 2 := by kernel_rfl
set_option maxRecDepth 100000 in
set_option maxHeartbeats 4000000 in
/-- Ahead of others, and there is room. -/
theorem Tryd.insert_shift (base g cap i : Nat) (cur : List Value) (l : List Mk) (d : Mk) (vb : Nat) (w : World) (hl : l.length ≤ 1000000) (hi : i < l.length) (hroom : l.length + 1 ≤ cap) (hcm : cap ≤ maxLen) (hbg : base ≤ g)
    (hg : w.heap[g]? = some (.cells cur.toArray 47 (0, 0))) (hcs : cur.length = cap * 2) (htk : cur.take (l.length * 2) = cellsOf l) (hvb : w.heap[vb]? = some (.cells #[.int .i64 d.1, .int .i64 d.2] 47 (0, 0))) (hne : vb ≠ g) :
    Calls Tryd.prog 32 #[.slice (some ⟨g, 0, none⟩) l.length cap, .int .i64 (i : Nat), .slice (some ⟨vb, 0, none⟩) 1 1] w fun e w' => e = .returned (.slice (some ⟨g, 0, none⟩) (l.length + 1) cap) ∧ (∃ cur', w'.heap[g]? = some (.cells cur' 47 (0, 0)) ∧ cur'.size = cap * 2 ∧ cur'.toList.take ((l.length + 1) * 2) = cellsOf (l.take i ++ d :: l.drop i)) ∧ Below base w w' := by
  have hov : ∀ off lb cb, (callFunc 38 #[.slice (some ⟨vb, 0, none⟩) 1 1, .slice (some ⟨g, off, none⟩) lb cb]).run Tryd.prog w = .ok (.value (.bool false)) w := fun off lb cb => by
    rw [run_callFunc_extern Tryd.func38 (by kernel_rfl) (by kernel_rfl) (by kernel_rfl) (e := Extern.SlicesOverlaps.overlaps #[45, 45] #[4]) (by kernel_rfl),
      Lib.run_overlaps_apart w 45 4 47 Tryd.underlying45 2 Tryd.sizeOf47 ⟨vb, 0, none⟩ ⟨g, off, none⟩ 1 1 lb cb hne 47 47 2 (cap * 2) (by simp [World.shape?, hvb]) (by simp [World.shape?, hg, hcs]) (by omega) (by simp [World.frozen?, hvb]) (by simp [World.frozen?, hvb])]
    rfl
  obtain ⟨n, hn⟩ : ∃ n, n = l.length := ⟨_, rfl⟩
  obtain ⟨A, hA⟩ : ∃ A, A = cellsOf (l.take i) := ⟨_, rfl⟩
  obtain ⟨C, hC⟩ : ∃ C, C = cellsOf (l.drop i) := ⟨_, rfl⟩
  obtain ⟨S, hS⟩ : ∃ S, S = cur.drop (n * 2) := ⟨_, rfl⟩
  have hAl : A.length = i * 2 := by rw [hA, cells_len, List.length_take, Nat.min_eq_left (by omega)]
  have hCl : C.length = (n - i) * 2 := by rw [hC, cells_len, List.length_drop, hn]
  have hSl : S.length = cap * 2 - n * 2 := by rw [hS, List.length_drop, hcs]
  have hAC : A ++ C = cellsOf l := by rw [hA, hC, ← cells_append, List.take_append_drop]
  have hcur : cur = A ++ (C ++ S) := by rw [← List.append_assoc, hAC, ← htk, hS, hn, List.take_append_drop]
  have hC1 : ∀ v ∈ C, v.oneCell' = true := by rw [hC]; exact cells_one _
  have hend : cellsOf (l.take i ++ d :: l.drop i) = A ++ ([.int .i64 d.1, .int .i64 d.2] ++ C) := by rw [hA, hC, cells_append]; rfl
  rw [hend, ← hn]
  rw [← hn] at hl hi hroom
  clear hend hAC hA hC hS htk hn
  have hsrc : ∀ j v, C[j]? = some v → w.drew.cell? ((⟨g, i * 2, none⟩ : Addr).add j) = some v := by
    intro j v hj
    rw [Addr.add_lit]
    show w.cell? ⟨g, i * 2 + j, none⟩ = some v
    unfold World.cell?
    simp only [hg]
    rw [hcur, List.getElem?_toArray, ← hAl, List.getElem?_append_right (by omega), Nat.add_sub_cancel_left, List.getElem?_append_left (List.getElem?_eq_some_iff.1 hj).1]
    exact hj
  have HG : Hid (w.drew.heap[g]? = some (.cells cur.toArray 47 (0, 0))) := hg
  have HV : Hid (∀ j v, [Value.int .i64 d.1, .int .i64 d.2][j]? = some v → w.cell? ((⟨vb, 0, none⟩ : Addr).add j) = some v) := by
    intro j u h
    rw [Addr.add_lit]
    unfold World.cell?
    simp only [hvb]
    rcases j with _ | _ | j
    · simpa using h
    · simpa using h
    · simp at h
  have HU := Lib.hid hcur
  have HAl := Lib.hid hAl
  have HCl := Lib.hid hCl
  have HSl := Lib.hid hSl
  have HSr := Lib.hid hsrc
  have HC1 := Lib.hid hC1
  have HCS := Lib.hid hcs
  have hz2 : ¬ ((i : Int) = (n : Int)) := by omega
  have hw1 : IntKind.i64.wrap ((i : Int) + 1) = (i : Int) + 1 := by rw [IntKind.wrap_i64]; omega
  have hb1 : (0 : Int) ≤ (i : Int) + 1 := by omega
  have htn : ((i : Int) + 1).toNat = i + 1 := by omega
  have hb2 : ¬ (cap = i + 1) := by omega
  have hb3 : (i : Int) ≤ (n : Int) + 1 := by omega
  have hb4 : ¬ (cap = i) := by omega
  have hin : i ≤ n := by omega
  have hc63 : cap ≤ 9223372036854775807 := by unfold maxLen at hcm; omega
  have hmx : Tryd.prog.follows .mixedOrders = true := by kernel_rfl
  clear hg hvb hcur hAl hCl hSl hsrc hC1 hcs hcm
  go_enter Tryd.func32, Tryd.ntmps32
  go_wp2_with (simp only [hov])
  go_region_law_o (refine step_copyK rfl _ _ 45 45 rfl 47 2 Tryd.underlying45 Tryd.size47 (n - i) (cap - (i + 1)) (n + 1 - i) (cap - i) g ((i + 1) * 2) ⟨g, i * 2, none⟩ (by simp [Act.eval, Act.put]) (by simp [Act.eval, Act.put]) cur 47 HG.out C (by rw [HCl.out]; congr 1; simp only [Nat.min_def]; split <;> omega) HSr.out (by rw [HCl.out, HCS.out]; omega) HC1.out base w (Below.refl _ _).drew hbg ?_; intro w2 hg2 hB2 hk2)
  have HV2 : Hid (∀ j v, [Value.int .i64 d.1, .int .i64 d.2][j]? = some v → w2.cell? ((⟨vb, 0, none⟩ : Addr).add j) = some v) := by
    intro j v hj
    have := HV.out j v hj
    rw [Addr.add_lit] at this ⊢
    rw [← this]
    unfold World.cell?
    rw [hk2 vb hne]; rfl
  have HK2 := Lib.hid hk2
  clear hk2
  go_wp2_with (refine wpList_copyK rfl (.tmp 80) (.tmp 81) 45 45 rfl 47 2 Tryd.underlying45 Tryd.size47 (n + 1 - i) (cap - i) 1 1 g (i * 2) ⟨vb, 0, none⟩ rfl rfl (splice cur ((i + 1) * 2) C) 47 hg2.out [.int .i64 d.1, .int .i64 d.2] (by simp only [Nat.min_def]; rw [if_pos (by omega)]; rfl) HV2.out (by rw [length_splice _ _ _ (by rw [HCl.out, HCS.out]; omega), HCS.out]; simp; omega) (by simp [Value.oneCell']) base w hB2 hbg ?_; intro w3 hg3 hB3 hk3)
  go_ret
  refine ⟨rfl, ⟨_, hg3.out, ?_, ?_⟩, hB3⟩
  · rw [List.size_toArray, length_splice _ _ _ (by rw [length_splice _ _ _ (by rw [HCl.out, HCS.out]; omega), HCS.out]; simp; omega), length_splice _ _ _ (by rw [HCl.out, HCS.out]; omega), HCS.out]
  · have e := splice_shift cur A C S [.int .i64 d.1, .int .i64 d.2] HU.out (by rw [HSl.out]; simp; omega)
    rw [HAl.out] at e
    rw [show (i + 1) * 2 = i * 2 + [Value.int .i64 d.1, .int .i64 d.2].length from by simp; omega, e, ← List.append_assoc [_, _] C, ← List.append_assoc A]
    exact List.take_left' (by simp only [List.length_append, HAl.out, HCl.out, List.length_cons, List.length_nil]; omega)
end Go.Proofs
