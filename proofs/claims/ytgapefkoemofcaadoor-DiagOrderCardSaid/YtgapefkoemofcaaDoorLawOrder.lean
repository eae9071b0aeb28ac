/- The law DiagOrder, as a contract. Conditions: a slice of slices that came in; a byte; the table of powers of ten holds what the card lays. -/
import Derived.Test.YtgapefkoemofcaaDoorLawPuts
import Derived.Deep.RegionLaw
import Derived.Deep.RegionLawGrows
import Derived.Deep.DeepCutAuto
namespace Go
open Go.RowKit
/-- append onto a row of the call's own, as a step of a region that draws; what was another's block stays another's. -/
theorem step_append_own {P : Program} {w : World} {ops : Array Oper} {o : Oper} {a : Act} {K : Act → World → Prop} {Q : Exit → Act → World → Prop} {E : Prop} (hgd : o.guard = none) (s x : Operand) (t : TypeId)
    (ho : o.op = .call { callee := .builtin .append, args := #[s, x], argTypes := #[t, t] })
    (base : Nat) (e : TypeId) (i : TypeInfo) (z : Value) (size bytes : Nat) (ht : P.underlying t = some (.slice e)) (hi : P.info? e = some i) (hz : i.zero = some z)
    (hsize : i.size = size) (hby : i.bytes = bytes) (hzs : z.cells.size = size) (hsz : 0 < size)
    (g cap n : Nat) (xs : List Value) (hs : a.eval s = .slice (some ⟨g, 0, none⟩) n cap) (hown : w.ownsRow base e size (.slice (some ⟨g, 0, none⟩) n cap) n xs)
    (ad : Addr) (m c : Nat) (news : List Value) (hx : a.eval x = .slice (some ad) m c) (hl : news.length = m * size) (hnews : ∀ j u, news[j]? = some u → w.cell? (ad.add j) = some u) (h1 : ∀ u ∈ news, u.oneCell' = true)
    (h63 : n + m ≤ maxLen) (hbytes : (n + m) * bytes ≤ 140737488355328) (hbase : base ≤ w.heap.size)
    (h : ∀ g' cap' w', w'.ownsRow base e size (.slice (some ⟨g', 0, none⟩) (n + m) cap') (n + m) (xs ++ news) → w.grownBy w' (some g) → (∀ k, k < w.heap.size → k ≠ g → k ≠ g') → n + m ≤ cap' → cap' ≤ maxLen → K (a.put o.dst (.slice (some ⟨g', 0, none⟩) (n + m) cap')) w') :
    if Region.wanted o (yielded ops a.tmps) = true then Oper.wp P o a w K Q else E := by
  have hw : Region.wanted o (yielded ops a.tmps) = true := by simp [Region.wanted, hgd]
  rw [if_pos hw]
  have hsmall : n + m ≤ 9223372036854775807 := by simp only [maxLen] at h63; omega
  subst hsize
  subst hby
  have hlen : (xs ++ news).length = (n + m) * i.size := by rw [List.length_append, hown.1, hl, Nat.add_mul]
  have own := hown
  rcases hown.2 with ⟨h0, _⟩ | ⟨g1, cap1, cur, hv, hbg, hg, hnc, hcm, hcs, htake⟩
  · cases h0
  · simp only [Value.slice.injEq, Option.some.injEq, Addr.mk.injEq, and_true, true_and] at hv
    obtain ⟨rfl, rfl⟩ := hv
    by_cases hroom : n + m ≤ cap
    · have hfit : n * i.size + news.length ≤ cur.size := by rw [hl, hcs, ← Nat.add_mul]; exact Nat.mul_le_mul_right _ hroom
      have hr := run_append_room (P := P) w t o.type e i ht hi g n cap cur hg ad m c news hl hnews h1 hroom hfit
      unfold Oper.wp execOp
      simp only [ho, resolve, invoke, builtin, Sem.run_bind, Sem.run_pure, Result.andThen_ok, List.map_toArray, List.map_cons, List.map_nil, hs, hx, hr]
      refine h g cap _ ⟨hlen, .inr ⟨g, cap, _, rfl, hbg, setRow_heap w g cur _ e _ hg, hroom, hcm, ?_, ?_⟩⟩ ⟨rfl, rfl, rfl, by simp, fun k _ hk => setRow_other w g k _ (fun e => hk (by simp [e]))⟩ (fun k _ hk => hk) hroom hcm
      · simp only [List.size_toArray, List.length_append, List.length_take, List.length_drop, Array.length_toList]
        omega
      · rw [htake, ← hlen]
        exact List.take_left
    · obtain ⟨v', w', hrun, r1, r2⟩ := run_append_arg_grows (P := P) w t o.type e i z i.size i.bytes ht hi hz rfl rfl hzs hsz ⟨g, 0, none⟩ n cap xs own.1 (own.cells (g := g) rfl) ad m c news hl hnews (by omega) h63 hbytes
      unfold Oper.wp execOp
      simp only [ho, resolve, invoke, builtin, Sem.run_bind, Sem.run_pure, Result.andThen_ok, List.map_toArray, List.map_cons, List.map_nil, hs, hx, hrun]
      rcases r1.2 with ⟨_, hz0⟩ | ⟨g', cap', cur', rfl, hbg', hgg', hnc', hcm', hcs', htk'⟩
      · omega
      · exact h g' cap' w' ⟨r1.1, .inr ⟨g', cap', cur', rfl, Nat.le_trans hbase hbg', hgg', hnc', hcm', hcs', htk'⟩⟩ ⟨r2.os, r2.tape, r2.output, r2.size, fun k hk _ => r2.block k hk (by simp)⟩ (fun k hk _ e => by omega) hnc' hcm'
end Go
namespace Go.Proofs
open Go.RowKit Go.Dg
attribute [local go_sem] Oper.semAt_some
attribute [local go_sem ↓] Go.wp_at_zero Go.wp_at_succ
theorem gather2 {α : Type} {Q : Nat → α → Prop} : ∀ n, (∀ i, i < n → ∃ x, Q i x) → ∃ l : List α, l.length = n ∧ ∀ i x, l[i]? = some x → Q i x
  | 0, _ => ⟨[], rfl, fun i x h => by simp at h⟩
  | n + 1, h => by
    obtain ⟨l, hl, hq⟩ := gather2 n (fun i hi => h i (by omega))
    obtain ⟨x, hx⟩ := h n (by omega)
    refine ⟨l ++ [x], by simp [hl], fun i y hy => ?_⟩
    by_cases hi : i < l.length
    · rw [List.getElem?_append_left hi] at hy; exact hq i y hy
    · have hlt := (List.getElem?_eq_some_iff.1 hy).1
      have e : i = l.length := by simp at hlt; omega
      subst e
      have e2 : x = y := by simpa using hy
      subst e2; rw [hl]; exact hx
/-- Values that read as lists. -/
def Vals (W : World) (us : List Value) (mm : List (List Mk)) : Prop := us.length = mm.length ∧ ∀ (i : Nat) (u : Value) (l : List Mk), us[i]? = some u → mm[i]? = some l → HasDiags W u l
theorem Vals.next {W W' : World} {us : List Value} {mm : List (List Mk)} (h : Vals W us mm) (hb : Below W.heap.size W W') : Vals W' us mm := ⟨h.1, fun i u l h1 h2 => (h.2 i u l h1 h2).next hb⟩
theorem Vals.drop {W : World} {us : List Value} {mm : List (List Mk)} (h : Vals W us mm) (k : Nat) : Vals W (us.drop k) (mm.drop k) :=
  ⟨by simp [h.1], fun i u l h1 h2 => h.2 (k + i) u l (by rwa [List.getElem?_drop] at h1) (by rwa [List.getElem?_drop] at h2)⟩
theorem Vals.take {W : World} {us : List Value} {mm : List (List Mk)} (h : Vals W us mm) (k : Nat) : Vals W (us.take k) (mm.take k) := by
  refine ⟨by simp [h.1], fun i u l h1 h2 => ?_⟩
  rw [List.getElem?_take] at h1 h2
  split at h1
  · rename_i hi
    rw [if_pos hi] at h2
    exact h.2 i u l h1 h2
  · cases h1
theorem Vals.append {W : World} {us vs : List Value} {mm nn : List (List Mk)} (h : Vals W us mm) (k : Vals W vs nn) : Vals W (us ++ vs) (mm ++ nn) := by
  refine ⟨by simp [h.1, k.1], fun i u l h1 h2 => ?_⟩
  by_cases hi : i < us.length
  · rw [List.getElem?_append_left hi] at h1
    rw [List.getElem?_append_left (by rw [← h.1]; exact hi)] at h2
    exact h.2 i u l h1 h2
  · rw [List.getElem?_append_right (by omega)] at h1
    rw [List.getElem?_append_right (by rw [← h.1]; omega), ← h.1] at h2
    exact k.2 _ u l h1 h2
theorem Vals.one {W : World} {u : Value} {l : List Mk} (h : HasDiags W u l) : Vals W [u] [l] := by
  refine ⟨rfl, fun i x m h1 h2 => ?_⟩
  cases i with
  | zero =>
    have e1 : u = x := by simpa using h1
    have e2 : l = m := by simpa using h2
    subst e1; subst e2; exact h
  | succ i => simp at h1
theorem Vals.cell1 {W : World} {us : List Value} {mm : List (List Mk)} (h : Vals W us mm) : ∀ u ∈ us, u.oneCell' = true := by
  intro u hu
  obtain ⟨i, hi, he⟩ := List.getElem_of_mem hu
  have h2 : i < mm.length := by rw [← h.1]; exact hi
  obtain ⟨ao, cap, rfl⟩ := (h.2 i u mm[i] (by rw [List.getElem?_eq_getElem hi, he]) (List.getElem?_eq_getElem h2)).len
  rfl
theorem lists_of_owns {W : World} {base : Nat} {v : Value} {us : List Value} {mm : List (List Mk)} (h : W.ownsRow base 28 1 v mm.length us) (hv : Vals W us mm) : HasLists W v mm := by
  rcases h.2 with ⟨rfl, h0⟩ | ⟨g, cap, cur, rfl, _, hg, hnc, hcm, hcs, htk⟩
  · exact .inl ⟨List.length_eq_zero_iff.1 h0, none, 0, rfl⟩
  · refine .inr ⟨g, 0, cap, rfl, hnc, hcm, (Array.getElem?_eq_some_iff.1 hg).1, fun i l hi => ?_⟩
    have hlt : i < us.length := by rw [hv.1]; exact (List.getElem?_eq_some_iff.1 hi).1
    obtain ⟨x, h1⟩ : ∃ x, us[i]? = some x := ⟨_, List.getElem?_eq_getElem hlt⟩
    refine ⟨x, ?_, hv.2 i x l h1 hi⟩
    have h2 : i < mm.length := (List.getElem?_eq_some_iff.1 hi).1
    rw [← htk, List.getElem?_take, if_pos (by omega)] at h1
    unfold World.cell?
    simp only [hg, Nat.zero_add]
    simpa using h1
theorem lists_vals {W : World} {b off : Nat} {ll : List (List Mk)} (h : ListsAt W b off ll) : ∃ us, Vals W us ll ∧ ∀ i u, us[i]? = some u → W.cell? ⟨b, off + i, none⟩ = some u := by
  obtain ⟨us, hl, hq⟩ := gather2 (Q := fun i u => W.cell? ⟨b, off + i, none⟩ = some u ∧ ∀ l, ll[i]? = some l → HasDiags W u l) ll.length (fun i hi => by
    obtain ⟨u, h1, h2⟩ := h.2 i ll[i] (List.getElem?_eq_getElem hi)
    exact ⟨u, h1, fun l hl => by rw [List.getElem?_eq_getElem hi] at hl; cases hl; exact h2⟩)
  exact ⟨us, ⟨hl, fun i u l h1 h2 => (hq i u h1).2 l h2⟩, fun i u h1 => (hq i u h1).1⟩
/-- A block of one cell. -/
def OneBlk (W : World) (n : Nat) (u : Value) : Prop := n < W.heap.size ∧ W.heap[n]? = some (.cells #[u] 28 (0, 0))
theorem OneBlk.new {W : World} {n : Nat} {u : Value} (h : n = W.heap.size) : OneBlk (W.alloc (.cells #[u] 28)) n u := by rw [h]; exact ⟨by simp, World.alloc_heap_new W _⟩
theorem OneBlk.alloc {W : World} {n : Nat} {u : Value} (h : OneBlk W n u) (o : Obj) : OneBlk (W.alloc o) n u := ⟨by simp; have := h.1; omega, (((Below.refl W.heap.size W).alloc (Nat.le_refl _) o).block n h.1).trans h.2⟩
theorem OneBlk.drew {W : World} {n : Nat} {u : Value} (h : OneBlk W n u) : OneBlk W.drew n u := h
theorem OneBlk.grown {W W' : World} {n g g' : Nat} {u : Value} (h : OneBlk W n u) (hne : n ≠ g) (hg : W.grownBy W' (some g)) (hf : ∀ k, k < W.heap.size → k ≠ g → k ≠ g') : OneBlk W' n u ∧ n ≠ g' :=
  ⟨⟨Nat.lt_of_lt_of_le h.1 hg.size, (hg.block n h.1 (by simpa using hne)).trans h.2⟩, hf n h.1 hne⟩
theorem OneBlk.cell {W : World} {n : Nat} {u : Value} (h : OneBlk W n u) : ∀ j x, [u][j]? = some x → W.cell? ((⟨n, 0, none⟩ : Addr).add j) = some x := by
  intro j x hj
  rw [Addr.add_lit]
  cases j with
  | zero =>
    have e : u = x := by simpa using hj
    subst e
    unfold World.cell?; simp only [h.2]; rfl
  | succ j => simp at hj
theorem owns_empty3 {W : World} {n base : Nat} (h : n = W.heap.size) (hb : base ≤ W.heap.size) : (W.alloc (.cells #[] 28)).ownsRow base 28 1 (.slice (some ⟨n, 0, none⟩) 0 0) 0 [] := by
  rw [h]; exact World.ownsRow_made W _ 0 hb (by unfold maxLen; omega) rfl
theorem grownB {n g : Nat} {w W W' : World} (hB : Below n w W) (hn : n ≤ W.heap.size) (hg : W.grownBy W' (some g)) (hng : n ≤ g) : Below n w W' :=
  hB.grown hg hn (fun k hk => by cases hk; exact hng)
theorem owns_ge {W : World} {base : Nat} {e : TypeId} {size g n cap : Nat} {xs : List Value} (h : W.ownsRow base e size (.slice (some ⟨g, 0, none⟩) n cap) n xs) : base ≤ g ∧ g < W.heap.size := by
  rcases h.2 with ⟨h0, _⟩ | ⟨g1, cap1, cur, hv, hbg, hg, _⟩
  · cases h0
  · simp only [Value.slice.injEq, Option.some.injEq, Addr.mk.injEq, and_true, true_and] at hv
    obtain ⟨rfl, rfl⟩ := hv
    exact ⟨hbg, (Array.getElem?_eq_some_iff.1 hg).1⟩
/-- The three orders in which the list's own block may have been laid ahead of an append. -/
theorem OneBlk.p0 {w1 w2 : World} {u : Value} {g2 : Nat} (hg : ((w1.alloc (.cells #[u] 28)).alloc (.cells #[] 28)).drew.grownBy w2 (some (w1.heap.size + 1))) (hf : ∀ k, k < ((w1.alloc (.cells #[u] 28)).alloc (.cells #[] 28)).drew.heap.size → k ≠ w1.heap.size + 1 → k ≠ g2) : OneBlk w2 w1.heap.size u ∧ w1.heap.size ≠ g2 :=
  OneBlk.grown (OneBlk.drew ((OneBlk.new rfl).alloc _)) (by omega) hg hf
theorem OneBlk.p1 {w1 w2 : World} {u : Value} {g2 : Nat} (hg : ((w1.alloc (.cells #[] 28)).alloc (.cells #[u] 28)).drew.grownBy w2 (some w1.heap.size)) (hf : ∀ k, k < ((w1.alloc (.cells #[] 28)).alloc (.cells #[u] 28)).drew.heap.size → k ≠ w1.heap.size → k ≠ g2) : OneBlk w2 (w1.heap.size + 1) u ∧ w1.heap.size + 1 ≠ g2 :=
  OneBlk.grown (OneBlk.drew (OneBlk.new (by simp))) (by omega) hg hf
theorem OneBlk.p2 {w2 w3 : World} {u : Value} {base g2 g3 N c2 : Nat} {xs : List Value} (ho : w2.ownsRow base 28 1 (.slice (some ⟨g2, 0, none⟩) N c2) N xs) (hg : (w2.alloc (.cells #[u] 28)).grownBy w3 (some g2)) (hf : ∀ k, k < (w2.alloc (.cells #[u] 28)).heap.size → k ≠ g2 → k ≠ g3) : OneBlk w3 w2.heap.size u ∧ w2.heap.size ≠ g3 :=
  OneBlk.grown (OneBlk.new rfl) (Nat.ne_of_gt (owns_ge ho).2) hg hf
theorem news_drop {W0 W : World} {b off k : Nat} {us : List Value} (h : ∀ j u, us[j]? = some u → W0.cell? ⟨b, off + j, none⟩ = some u) (hb : Below W0.heap.size W0 W) (hlt : b < W0.heap.size) : ∀ j u, (us.drop k)[j]? = some u → W.cell? ((⟨b, off + k, none⟩ : Addr).add j) = some u := by
  intro j u hj
  rw [Addr.add_lit, hb.cell (p := ⟨b, off + k + j, none⟩) hlt, Nat.add_assoc]
  exact h (k + j) u (by rwa [List.getElem?_drop] at hj)
theorem news_take {W0 W : World} {b off k : Nat} {us : List Value} (h : ∀ j u, us[j]? = some u → W0.cell? ⟨b, off + j, none⟩ = some u) (hb : Below W0.heap.size W0 W) (hlt : b < W0.heap.size) : ∀ j u, (us.take k)[j]? = some u → W.cell? ((⟨b, off, none⟩ : Addr).add j) = some u := by
  intro j u hj
  rw [Addr.add_lit, hb.cell (p := ⟨b, off + j, none⟩) hlt]
  rw [List.getElem?_take] at hj
  split at hj
  · exact h j u hj
  · cases hj
theorem turned_all {ll : List (List Mk)} {k : Nat} {l : List Mk} (h : ll[k]? = some l) : allS (ll.drop k ++ ll.take k ++ [l] ++ [l.reverse]).flatten = allS ll.flatten := by
  refine allS_perm fun x => ?_
  have hl : l ∈ ll := List.mem_of_getElem? h
  simp only [List.mem_flatten, List.mem_append, List.mem_singleton]
  constructor
  · rintro ⟨m, ((hm | hm) | rfl) | rfl, hx⟩
    · exact ⟨m, List.mem_of_mem_drop hm, hx⟩
    · exact ⟨m, List.mem_of_mem_take hm, hx⟩
    · exact ⟨_, hl, hx⟩
    · exact ⟨l, hl, List.mem_reverse.1 hx⟩
  · rintro ⟨m, hm, hx⟩
    rw [← List.take_append_drop k ll, List.mem_append] at hm
    rcases hm with hm | hm
    · exact ⟨m, .inl (.inl (.inr hm)), hx⟩
    · exact ⟨m, .inl (.inl (.inl hm)), hx⟩
theorem rev_step {l : List Mk} {q : Nat} {p : Mk} (h : l[q]? = some p) : (l.drop q).reverse = (l.drop (q + 1)).reverse ++ [p] := by
  obtain ⟨hq, rfl⟩ := List.getElem?_eq_some_iff.1 h
  rw [List.drop_eq_getElem_cons hq, List.reverse_cons]
theorem cells_one (W : World) (u : Value) (t : TypeId) : ∀ (j : Nat) (x : Value), [u][j]? = some x → (W.alloc (.cells #[u] t)).cell? ((⟨W.heap.size, 0, none⟩ : Addr).add j) = some x := by
  intro j x hj
  rw [Addr.add_lit]
  cases j with
  | zero =>
    have e : u = x := by simpa using hj
    subst e
    unfold World.cell?; simp only [World.alloc_heap_new]; rfl
  | succ j => simp at hj
theorem kept_two {W0 W W' : World} {b0 n m size size' : Nat} {e e' : TypeId} {u v : Value} {xs ys : List Value} (h6 : W0.ownsRow b0 e size u n xs) (hB : W.ownsRow W0.heap.size e' size' v m ys) (hg : W.grownBy W' u.ownBlock) : W'.ownsRow W0.heap.size e' size' v m ys := by
  refine hB.kept hg ?_
  cases hv : v.ownBlock with
  | none => exact .inl rfl
  | some k =>
    refine .inr fun he => ?_
    have h1 := (hB.lt k hv).1
    have h2 := (h6.lt k he.symm).2
    omega
theorem Tryd.info28 : (Tryd.prog.info? 28).map (fun i => (i.zero, i.size, i.bytes)) = some (some (.slice none 0 0), 1, 24) := by kernel_rfl
set_option maxRecDepth 100000 in
set_option maxHeartbeats 4000000 in
theorem Tryd.DiagOrder_calls (v : Value) (ll : List (List Mk)) (at' : Int) (h0 : 0 ≤ at') (h1 : at' ≤ 255) (w : World) (hv : HasLists w v ll) (ht : Tab w) :
    Calls Tryd.prog 4 #[v, .int .u8 at'] w fun e w' => e = .returned (.bool true) ∧ Below w.heap.size w w' := by
  have HS : Hid (∀ W, Tab W → Calls Tryd.prog 9 #[] W fun e w' => e = .returned (.bool true) ∧ Below W.heap.size W w') := fun W h => Tryd.shown_any W h
  have HT := Lib.hid ht
  have HL : Hid (∀ W, HasLists W v ll → Calls Tryd.prog 8 #[v] W fun e w' => e = .returned (.bool (!fitB ll)) ∧ W = w') := fun W h => Tryd.long_any v ll W h
  have HV := Lib.hid hv
  cases hfit : fitB ll with
  | false =>
    rw [hfit] at HL
    clear ht hfit hv
    go_enter Tryd.func4, Tryd.ntmps4
    go_wp2_with (first | (go_at_call 8; (with_reducible refine (HL.out _ HV.out).mono ?_); rintro e w' ⟨rfl, rfl⟩) | (go_at_call 9; (with_reducible refine (HS.out _ HT.out).mono ?_); rintro e w1 ⟨rfl, hb1⟩))
    go_ret
    exact ⟨rfl, hb1⟩
  | true =>
    obtain ⟨f1, f2, f3⟩ := fitB_iff.1 hfit
    rw [hfit] at HL
    rcases hv with ⟨rfl, ao, cap, rfl⟩ | ⟨b, off, cap, rfl, hlc, hcm, hd⟩
    · clear ht hfit f1 f2 f3
      go_enter Tryd.func4, Tryd.ntmps4
      go_wp2_with (first | (go_at_call 8; (with_reducible refine (HL.out _ HV.out).mono ?_); rintro e w' ⟨rfl, rfl⟩) | (go_at_call 9; (with_reducible refine (HS.out _ HT.out).mono ?_); rintro e w1 ⟨rfl, hb1⟩))
      go_ret
      exact ⟨rfl, hb1⟩
    · by_cases hz : ll.length = 0
      · have hz' : ((ll.length : Int) == 0) = true := by rw [hz]; rfl
        clear ht hfit f1 f2 f3 hd hlc hz
        go_enter Tryd.func4, Tryd.ntmps4
        go_wp2_with (first | (go_at_call 8; (with_reducible refine (HL.out _ HV.out).mono ?_); rintro e w' ⟨rfl, rfl⟩) | (go_at_call 9; (with_reducible refine (HS.out _ HT.out).mono ?_); rintro e w1 ⟨rfl, hb1⟩))
        go_ret
        exact ⟨rfl, hb1⟩
      · have hz' : ((ll.length : Int) == 0) = false := beq_eq_false_iff_ne.2 (by omega)
        have hzn : ¬ ((ll.length : Int) = 0) := by omega
        obtain ⟨k, hk⟩ : ∃ k : Nat, at' % (ll.length : Int) = (k : Int) := ⟨(at' % (ll.length : Int)).toNat, by have := Int.emod_nonneg at' hzn; omega⟩
        have hkl : k < ll.length := by have := Int.emod_lt_of_pos at' (show (0 : Int) < (ll.length : Int) by omega); omega
        obtain ⟨i0, hi, hz0, hz1, hz2⟩ := info_parts Tryd.info28
        have HI := Lib.hid hi
        unfold maxLen at hcm
        clear ht hfit hi hz
        have hkk : ll.length - k + k = ll.length := by omega
        have hk0 : (0 : Int) ≤ (k : Int) := by omega
        have hk1 : (k : Int) ≤ (ll.length : Int) := by omega
        have hk2 : (k : Int) < (ll.length : Int) := by omega
        have hkc : ¬ (cap = k) := by omega
        have hk3 : (k : Int) ≤ (cap : Int) := by omega
        have hk4 : k ≤ cap := by omega
        have hk5 : k ≤ ll.length := by omega
        obtain ⟨us, hus, hcu⟩ := lists_vals hd
        have hbl := hd.1
        have hul := hus.1
        obtain ⟨u, hu⟩ : ∃ u, us[k]? = some u := ⟨_, List.getElem?_eq_getElem (by omega)⟩
        obtain ⟨l, hlk⟩ : ∃ l, ll[k]? = some l := ⟨_, List.getElem?_eq_getElem hkl⟩
        obtain ⟨ao, uc, rfl⟩ := (hus.2 k u l hu hlk).len
        have HU := Lib.hid (hus.2 k _ l hu hlk)
        have HUS := Lib.hid hus
        have HCU := Lib.hid hcu
        have Hu := Lib.hid hu
        have HLK := Lib.hid hlk
        have LD : Hid ((us.drop k).length = (ll.length - k) * 1) := by unfold Hid; rw [List.length_drop, hul]; omega
        have LT : Hid ((us.take k).length = k * 1) := by unfold Hid; rw [List.length_take, hul, Nat.min_eq_left (by omega)]; omega
        have OD : Hid (∀ x ∈ us.drop k, x.oneCell' = true) := (hus.drop k).cell1
        have OT : Hid (∀ x ∈ us.take k, x.oneCell' = true) := (hus.take k).cell1
        have OU : Hid (∀ x ∈ [Value.slice ao l.length uc], x.oneCell' = true) := (Vals.one (hus.2 k _ l hu hlk)).cell1
        clear hus hcu hu hlk hd hul
        go_enter Tryd.func4, Tryd.ntmps4
        go_upto_region 4 with (first | (go_at_call 8; (with_reducible refine (HL.out _ HV.out).mono ?_); rintro e w' ⟨rfl, rfl⟩) | (go_at_call 9; (with_reducible refine (HS.out _ HT.out).mono ?_); rintro e w1 ⟨rfl, hb1⟩))
        rw [hk]
        have LU : Hid (∀ j x, us[j]? = some x → w1.cell? ⟨b, off + j, none⟩ = some x) := fun j x h => (hb1.cell (p := ⟨b, off + j, none⟩) hbl).trans (HCU.out j x h)
        have x0 : w1.cell? ⟨b, off + k, none⟩ = some (.slice ao l.length uc) := LU.out k _ Hu.out
        have hbl1 : b < w1.heap.size := Nat.lt_of_lt_of_le hbl hb1.size
        have B1 : Below w1.heap.size w1 w1 := Below.refl _ _
        go_cut [6] (fun s6 wx => wx.ownsRow w1.heap.size 28 1 s6 (ll.length + 1) (us.drop k ++ us.take k ++ [Value.slice ao l.length uc]) ∧ Below w1.heap.size w1 wx)
        case first =>
          go_region_law (first
            | (refine step_append_own rfl (.tmp 26) (.tmp 29) 22 rfl w1.heap.size 28 i0 (.slice none 0 0) 1 24 Tryd.underlying22 HI.out hz0 hz1 hz2 rfl (by decide) _ 0 0 [] rfl (by repeat first | exact owns_empty3 (by simp) (by first | exact Nat.le_refl _ | (simp; done) | (simp; omega) | omega) | (with_reducible refine owns_drew ?_) | (with_reducible refine World.ownsRow.alloc ?_ _)) ⟨b, off + k, none⟩ (ll.length - k) (cap - k) (us.drop k) rfl LD.out (news_drop LU.out (by repeat first | exact B1 | (with_reducible refine Below.drew ?_) | (with_reducible refine Below.alloc ?_ ?_ _; rotate_left; next => first | exact Nat.le_refl _ | (simp; done) | (simp; omega) | omega)) hbl1) OD.out (by unfold maxLen; omega) (by omega) (by first | exact Nat.le_refl _ | (simp; done) | (simp; omega) | omega) ?_; intro g2 c2 w2 ho2 hg2 hf2 hn2 hm2; rw [Nat.zero_add (ll.length - k)] at ho2 hn2 ⊢; have B2 : Below w1.heap.size w1 w2 := grownB (by repeat first | exact B1 | (with_reducible refine Below.drew ?_) | (with_reducible refine Below.alloc ?_ ?_ _; rotate_left; next => first | exact Nat.le_refl _ | (simp; done) | (simp; omega) | omega)) (by first | exact Nat.le_refl _ | (simp; done) | (simp; omega) | omega) hg2 (by first | exact Nat.le_refl _ | (simp; done) | (simp; omega) | omega); have z2 : w1.heap.size ≤ w2.heap.size := B2.size; have X2 : w2.cell? ⟨b, off + k, none⟩ = some (.slice ao l.length uc) := (B2.cell (p := ⟨b, off + k, none⟩) hbl1).trans x0; have hb2 : b < w2.heap.size := Nat.lt_of_lt_of_le hbl1 z2; (first | (have H2 := OneBlk.p0 hg2 hf2) | (have H2 := OneBlk.p1 hg2 hf2) | skip))
            | (refine step_append_own rfl (.tmp 30) (.tmp 33) 22 rfl w1.heap.size 28 i0 (.slice none 0 0) 1 24 Tryd.underlying22 HI.out hz0 hz1 hz2 rfl (by decide) _ _ (ll.length - k) (us.drop k) rfl (by repeat first | exact ho2 | (with_reducible refine owns_drew ?_) | (with_reducible refine World.ownsRow.alloc ?_ _)) ⟨b, off, none⟩ k cap (us.take k) rfl LT.out (news_take LU.out (by repeat first | exact B2 | (with_reducible refine Below.drew ?_) | (with_reducible refine Below.alloc ?_ ?_ _; rotate_left; next => first | exact Nat.le_refl _ | (simp; done) | (simp; omega) | omega)) hbl1) OT.out (by unfold maxLen; omega) (by omega) (by first | exact Nat.le_refl _ | (simp; done) | (simp; omega) | omega) ?_; intro g3 c3 w3 ho3 hg3 hf3 hn3 hm3; rw [hkk] at ho3 hn3 ⊢; have B3 : Below w1.heap.size w1 w3 := grownB (by repeat first | exact B2 | (with_reducible refine Below.drew ?_) | (with_reducible refine Below.alloc ?_ ?_ _; rotate_left; next => first | exact Nat.le_refl _ | (simp; done) | (simp; omega) | omega)) (by first | exact Nat.le_refl _ | (simp; done) | (simp; omega) | omega) hg3 (owns_ge ho2).1; have z3 : w1.heap.size ≤ w3.heap.size := B3.size; have X3 : w3.cell? ⟨b, off + k, none⟩ = some (.slice ao l.length uc) := (B3.cell (p := ⟨b, off + k, none⟩) hbl1).trans x0; have hb3 : b < w3.heap.size := Nat.lt_of_lt_of_le hbl1 z3; (first | (have H3 := OneBlk.grown H2.1 H2.2 hg3 hf3) | (have H3 := OneBlk.p2 ho2 hg3 hf3) | skip))
            | (refine step_append_own rfl (.tmp 34) (.tmp 39) 22 rfl w1.heap.size 28 i0 (.slice none 0 0) 1 24 Tryd.underlying22 HI.out hz0 hz1 hz2 rfl (by decide) _ _ ll.length (us.drop k ++ us.take k) rfl (by repeat first | exact ho3 | (with_reducible refine owns_drew ?_) | (with_reducible refine World.ownsRow.alloc ?_ _)) _ 1 1 [Value.slice ao l.length uc] rfl rfl (OneBlk.cell (by repeat first | exact H3.1 | exact OneBlk.new (by simp) | (with_reducible refine OneBlk.drew ?_) | (with_reducible refine OneBlk.alloc ?_ _))) OU.out (by unfold maxLen; omega) (by omega) (by first | exact Nat.le_refl _ | (simp; done) | (simp; omega) | omega) ?_; intro g4 c4 w4 ho4 hg4 hf4 hn4 hm4; have B4 : Below w1.heap.size w1 w4 := grownB (by repeat first | exact B3 | (with_reducible refine Below.drew ?_) | (with_reducible refine Below.alloc ?_ ?_ _; rotate_left; next => first | exact Nat.le_refl _ | (simp; done) | (simp; omega) | omega)) (by first | exact Nat.le_refl _ | (simp; done) | (simp; omega) | omega) hg4 (owns_ge ho3).1))
          all_goals (go_wp2_with fail; go_meet; exact ⟨ho4, B4⟩)
        case rest =>
          obtain ⟨ho6, hB6⟩ := hcut
          have HB1 := Lib.hid hb1
          have H6 := Lib.hid ho6
          have hx6 : wc.cell? ⟨b, off + k, none⟩ = some (.slice ao l.length uc) := (hB6.cell (p := ⟨b, off + k, none⟩) hbl1).trans x0
          have hs6 : w1.heap.size ≤ wc.heap.size := hB6.size
          have hb6 : b < wc.heap.size := Nat.lt_of_lt_of_le hbl1 hs6
          have hll : l.length ≤ 60 := f2 l (List.mem_of_getElem? HLK.out)
          clear ho6 x0 LD LT OD OT B1 HT HL HS
          obtain ⟨i5, hi5, hy0, hy1, hy2⟩ := info_parts Tryd.info25
          have HI5 := Lib.hid hi5
          have hA : ll.length ≤ 2000000 := by omega
          have hA2 : ∀ l ∈ ll, l.length ≤ 2000000 := fun l hl => by have := f2 l hl; omega
          have HA : Hid (∀ W, HasLists W (.slice (some ⟨b, off, none⟩) ll.length cap) ll → Calls Tryd.prog 10 #[.slice (some ⟨b, off, none⟩) ll.length cap] W fun e w' => ∃ v', e = .returned v' ∧ w'.ownsRow W.heap.size 25 2 v' (allS ll.flatten).length (cellsOf (allS ll.flatten)) ∧ Below W.heap.size W w') := fun W h => Tryd.All_any _ ll W hA hA2 h
          have HN : Hid (∀ x W, HasLists W x (ll.drop k ++ ll.take k ++ [l] ++ [l.reverse]) → Calls Tryd.prog 10 #[x] W fun e w' => ∃ v', e = .returned v' ∧ w'.ownsRow W.heap.size 25 2 v' (allS ll.flatten).length (cellsOf (allS ll.flatten)) ∧ Below W.heap.size W w') := fun x W h => by
            have h2 := Tryd.All_any x (ll.drop k ++ ll.take k ++ [l] ++ [l.reverse]) W (by simp; omega) (by
              intro m hm
              simp only [List.mem_append, List.mem_singleton] at hm
              rcases hm with ((hm | hm) | rfl) | rfl
              · exact hA2 m (List.mem_of_mem_drop hm)
              · exact hA2 m (List.mem_of_mem_take hm)
              · omega
              · rw [List.length_reverse]; omega) h
            rw [turned_all HLK.out] at h2
            exact h2
          have HM : Hid (∀ x y W, HasDiags W x (allS ll.flatten) → HasDiags W y (allS ll.flatten) → Calls Tryd.prog 12 #[x, y] W fun e w' => e = .returned (.bool true) ∧ Below W.heap.size W w') := fun x y W h2 h3 => Tryd.Same_any x y _ W (by have := len_allS ll.flatten; omega) h2 h3
          have hlen2 : ll.length + 1 + 1 ≤ 62 := by omega
          clear hi5 f1 f2 f3 hA hA2
          go_wp2
          go_loopw [7, 8] (fun v' i wr => ∃ q : Nat, q ≤ l.length ∧ i = .int .i64 ((q : Int) - 1) ∧ wr.ownsRow wc.heap.size 25 2 v' (l.drop q).reverse.length (cellsOf (l.drop q).reverse) ∧ Below wc.heap.size wc wr) (fun _ i _ => (intOf i + 1).toNat)
          case atStart => exact ⟨l.length, Nat.le_refl _, rfl, by rw [List.drop_length]; exact owns_empty2 wc 25 _ (Nat.le_refl _), (Below.refl _ wc).alloc (Nat.le_refl _) _⟩
          case round =>
            obtain ⟨q, hq, rfl, hown, hB⟩ := hrel
            have hB2 : wc.heap.size ≤ wr.heap.size := hB.size
            have hB3 : Below w1.heap.size w1 wr := hB6.trans (hB.mono hs6)
            have xr : wr.cell? ⟨b, off + k, none⟩ = some (.slice ao l.length uc) := (hB.cell (p := ⟨b, off + k, none⟩) hb6).trans hx6
            have hbr : b < wr.heap.size := Nat.lt_of_lt_of_le hb6 hB2
            clear hx6 hb6
            cases q with
            | succ r =>
              rcases HU.out.split with ⟨rfl, _⟩ | ⟨hlp, b', off', cap', he, hlc', hcm', hd'⟩
              · simp at hq
              · simp only [Value.slice.injEq, true_and] at he
                obtain ⟨rfl, rfl⟩ := he
                obtain ⟨p, hp⟩ : ∃ p, l[r]? = some p := ⟨_, List.getElem?_eq_getElem hq⟩
                have hbd : Below w.heap.size w wr := HB1.out.trans (hB3.mono HB1.out.size)
                obtain ⟨y0, y1⟩ := hd'.read hp
                replace y0 := (hbd.cell (p := ⟨b', off' + r * 2, none⟩) hd'.1).trans y0
                replace y1 := (hbd.cell (p := ⟨b', off' + r * 2 + 1, none⟩) hd'.1).trans y1
                have hbr2 : b' < wr.heap.size := Nat.lt_of_lt_of_le hd'.1 hbd.size
                have HR := Lib.hid (rev_step hp)
                have e1 : (((r + 1 : Nat) : Int) - 1) = (r : Int) := by omega
                have hml : (l.drop (r + 1)).reverse.length + 1 ≤ maxLen := by simp [maxLen]; omega
                have hml2 : ((l.drop (r + 1)).reverse.length + 1) * 16 ≤ 140737488355328 := by simp; omega
                unfold maxLen at hcm'
                rw [e1]
                clear hp hd' e1 hlp
                go_wp2_with (at_builtin; refine wpList_append_own _ rfl _ _ 28 rfl wc.heap.size 25 i5 (.agg #[.int .i64 0, .int .i64 0]) 2 16 Tryd.underlying28 HI5.out hy0 hy1 hy2 rfl (by decide) _ _ _ rfl (hown.alloc _) ⟨wr.heap.size, 0, none⟩ 1 1 [.int .i64 p.1, .int .i64 p.2] rfl rfl (cells_new2' rfl) (by simp [Value.oneCell']) hml hml2 (by simp; omega) ?_; intro v' w4 hown' hgrow _)
                go_roundw
                case rel => exact ⟨r, by omega, by go_num, by rw [HR.out, List.length_append, cells_append]; exact hown', grown_below hB hB2 hown hgrow⟩
                case measure => simp [intOf]
            | zero =>
              rw [List.drop_zero] at hown
              have H62 := Lib.hid (ownsRow_below H6.out hB (Nat.le_refl _))
              have HO := Lib.hid hown
              obtain ⟨ba, bc, rfl⟩ := (has_of_owns hown).len
              rw [List.length_reverse] at HO
              have hml : ll.length + 1 + 1 ≤ maxLen := by unfold maxLen; omega
              have hml2 : (ll.length + 1 + 1) * 24 ≤ 140737488355328 := by omega
              have e1 : (((0 : Nat) : Int) - 1) = (-1 : Int) := by omega
              rw [e1]
              clear hown xr e1
              have HOB := Lib.hid (cells_one wr (Value.slice ba l.length bc) 28)
              go_wp2_with (at_builtin; go_loud (refine wpList_append_own _ rfl _ _ 22 rfl w1.heap.size 28 i0 (.slice none 0 0) 1 24 Tryd.underlying22 HI.out hz0 hz1 hz2 rfl (by decide) _ _ _ rfl (H62.out.alloc _) ⟨wr.heap.size, 0, none⟩ 1 1 [Value.slice ba l.length bc] rfl rfl HOB.out (by simp [Value.oneCell']) hml hml2 (by simp; omega) ?_); intro v5 w5 hown5 hgrow5 _)
              have hB5 : Below w1.heap.size w1 w5 := grown_below hB3 (Nat.le_trans hs6 hB2) H62.out hgrow5
              have hBw : Below w.heap.size w w5 := HB1.out.trans (hB5.mono HB1.out.size)
              have O5 : w5.ownsRow wc.heap.size 25 2 (.slice ba l.length bc) l.length (cellsOf l.reverse) := kept_two H6.out (HO.out.alloc _) hgrow5
              have L5 : HasLists w5 v5 (ll.drop k ++ ll.take k ++ [l] ++ [l.reverse]) := by
                have e2 : (ll.drop k ++ ll.take k ++ [l] ++ [l.reverse]).length = ll.length + 1 + 1 := by simp; omega
                refine lists_of_owns (by rw [e2]; exact hown5) ?_
                have hh := HUS.out.next hBw
                exact (((hh.drop k).append (hh.take k)).append (Vals.one (HU.out.next hBw))).append (Vals.one (has_of_owns (by rw [List.length_reverse]; exact O5)))
              have V5 := Lib.hid (HV.out.next hBw)
              have L5' := Lib.hid L5
              clear L5 O5 hown5 hgrow5 HOB H62 HO hB3 hB5
              go_wp2_with (go_at_call 10; (with_reducible refine (HA.out _ V5.out).mono ?_); rintro e w6 ⟨va, rfl, ho6, hb6⟩; have N6 := Lib.hid (L5'.out.next hb6); have B6 := hBw.trans (hb6.mono hBw.size); have D6 := Lib.hid (has_of_owns ho6); clear ho6)
              go_wp2_with (go_at_call 10; (with_reducible refine (HN.out _ _ N6.out).mono ?_); rintro e w7 ⟨vb, rfl, ho7, hb7⟩; have B7 := B6.trans (hb7.mono B6.size); have D7 := Lib.hid (D6.out.next hb7); have E7 := Lib.hid (has_of_owns ho7); clear ho7)
              go_wp2_with (go_at_call 12; (with_reducible refine (HM.out _ _ _ D7.out E7.out).mono ?_); rintro e w8 ⟨rfl, hb8⟩; have B8 := B7.trans (hb8.mono B7.size))
              go_ret
              exact ⟨rfl, B8⟩
#print axioms Tryd.DiagOrder_calls
end Go.Proofs
