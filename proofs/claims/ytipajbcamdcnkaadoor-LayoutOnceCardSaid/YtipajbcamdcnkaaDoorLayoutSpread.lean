/- layout.spread of this program: the matrix that a layout's numbers tell. Conditions: a layout of 1 to 7, 1 to 400 rows, as many numbers as there should be. -/
import Derived.Test.YtipajbcamdcnkaaDoorLayoutGather
namespace Go.Proofs
open Go.RowKit Go.Shelf Go.Layout
attribute [local go_sem] Oper.semAt_some

theorem wpListIn_make_full {F : Fence} {n : Nat} {P : Program} (w : World) {ops : Array Oper} {rest : List Oper} {o : Oper} {a : Act} {Q : Exit → Act → World → Prop}
    (hg : o.guard = none) (l c : Operand) (t : TypeId) (hop : o.op = Op.makeSlice t l c)
    (e : TypeId) (i : TypeInfo) (z : Value) (h1 : P.underlying t = some (.slice e)) (h2 : P.info? e = some i) (h3 : i.zero = some z) (h4 : i.size = 1)
    (C : Int) (m : Nat) (hl : a.eval l = .int .i64 C) (hc : a.eval c = .int .i64 C) (hC : C = (m : Int)) (b2 : i.bytes * m ≤ 281474976710656) (b3 : m ≤ maxLen)
    (hK : wpListIn F n P ops Q rest (a.put o.dst (.slice (some ⟨w.heap.size, 0, none⟩) m m)) (w.alloc (.cells (madeCells z.cells m) e))) :
    wpListIn F n P ops Q (o :: rest) a w := by
  refine wpListIn_plain hg fun K hK' => ?_
  subst hC
  have hb : (i.bytes : Int) * (m : Int) ≤ 281474976710656 := by
    have h : ((i.bytes * m : Nat) : Int) ≤ 281474976710656 := by omega
    rwa [Int.natCast_mul] at h
  have hr := run_make (P := P) w t e i z h1 h2 h3 .i64 .i64 (m : Int) (m : Int) (by omega) (Int.le_refl _) hb (by have h := b3; simp [maxLen] at h; omega)
  simp only [Int.toNat_natCast, h4, Nat.mul_one] at hr
  unfold Oper.wpIn
  refine ⟨?_, ?_⟩
  · simp [Oper.about, hop]
  · rw [Oper.semAt_plain F _ _ (by rw [hop]; intro c hc'; cases hc')]
    simp [execOp, hop, hl, hc, hr, Result.andThen]
    exact hK' _ _ hK
theorem owns_made (w : World) (base : Nat) (e : TypeId) (m : Nat) (hb : base ≤ w.heap.size) (hm : m ≤ maxLen) : (w.alloc (.cells (madeCells #[.int .i64 0] m) e)).ownsRow base e 1 (.slice (some ⟨w.heap.size, 0, none⟩) m m) m ((List.replicate m 0).map intV) := by
  refine ⟨by simp, .inr ⟨w.heap.size, m, _, rfl, hb, World.alloc_heap_new w _, Nat.le_refl _, hm, by simp [madeCells], ?_⟩⟩
  apply List.ext_getElem?
  intro j
  by_cases hj : j < m
  · simp [madeCells, hj, intV, Nat.mod_one]
  · rw [List.getElem?_eq_none (by simp [madeCells]; omega), List.getElem?_eq_none (by simp; omega)]
theorem grownBy_setAt (W : World) (b j : Nat) (v : Value) : W.grownBy (W.setCell ⟨b, j, none⟩ v) (some b) :=
  ⟨rfl, rfl, rfl, (KeepsWalks.setCell W _ v).size, fun k _ hk => Below.heap_setCell _ _ _ k (fun e => hk (by rw [e]))⟩
theorem boxed_setAt {W : World} {b g j : Nat} {t : TypeId} {u : Value} (h : Boxed W b t u) (hne : b ≠ g) (v : Value) : Boxed (W.setCell ⟨g, j, none⟩ v) b t u := h.kept (grownBy_setAt W g j v) (fun e => hne (by cases e; rfl))
theorem rf_setAt {T : Nat → TypeId → Bool} {B base c cap g : Nat} {X Y : World} {e : TypeId} {xs : List Value} (h : RF T B X Y) (hrow : Y.ownsRow base e 1 (.slice (some ⟨g, 0, none⟩) c cap) c xs) (hT : T g e = false) (j : Nat) (v : Value) : RF T B X (Y.setCell ⟨g, j, none⟩ v) := by
  refine h.grown (grownBy_setAt Y g j v) fun k ek o ho => ?_
  cases ek
  rcases hrow.2 with ⟨h0, _⟩ | ⟨g', cap', cur, he, hbg, hgb, _⟩
  · cases h0
  · simp only [Value.slice.injEq, Option.some.injEq, Addr.mk.injEq, and_true, true_and] at he
    obtain ⟨rfl, rfl⟩ := he
    rw [hgb] at ho; cases ho; exact ⟨_, _, _, rfl, hT⟩
theorem ownsRow_ownR' {X Y : World} {base A own B' g c cap : Nat} {e : TypeId} {size : Nat} {k : Nat} {xs : List Value} (h2 : X.ownsRow base e size (.slice (some ⟨g, 0, none⟩) c cap) k xs) (hb : g < A) {row : Option Nat} (hg : X.grownBy Y row)
    (hr : ∀ r, row = some r → (B' ≤ r ∧ ∃ o : Obj, X.heap[r]? = some o ∧ o.isCells = false) ∨ (A ≤ r ∧ r < A + own)) : Y.ownsRow base e size (.slice (some ⟨g, 0, none⟩) c cap) k xs := by
  refine h2.kept hg (.inr fun e' => ?_)
  rcases hr g e'.symm with ⟨_, o, ho, hc⟩ | h
  · rcases h2.2 with ⟨h0, _⟩ | ⟨g', cap', cur, he, hbg, hgb, _⟩
    · cases h0
    · simp only [Value.slice.injEq, Option.some.injEq, Addr.mk.injEq, and_true] at he
      obtain ⟨rfl, _⟩ := he
      rw [hgb] at ho; cases ho; cases hc
  · omega
theorem wpIn_region_held_at {P : Program} {ops : Array Oper} {Q : Exit → Act → World → Prop} {id : Nat} {a : Act} {w : World} {l : Nat} (S : World → Prop) (hQ : ¬ LetsOut Q) (hm : P.follows .mixedOrders = true) (hnd : ops.all Oper.noDefer = true) (Y : World) (hY : Y = w.drew) (hS : S Y)
    (h : S Y → wpAnyH P .any ops Q S ops.size (Array.replicate ops.size false) a Y) : (Code.region id ops true).wpIn (Fence.wide.inRound l) 0 P Q a w := by
  subst hY
  exact wpIn_region_held_round S hQ hm hnd hS h
theorem owns_other {W : World} {base c cap g b : Nat} {e : TypeId} {xs : List Value} (hrow : W.ownsRow base e 1 (.slice (some ⟨g, 0, none⟩) c cap) c xs) (hne : g ≠ b) (v : Value) : (W.setCell ⟨b, 0, none⟩ v).ownsRow base e 1 (.slice (some ⟨g, 0, none⟩) c cap) c xs :=
  hrow.kept (grownBy_setAt W b 0 v) (.inr fun e' => hne (by cases e'; rfl))

set_option maxRecDepth 100000 in
set_option maxHeartbeats 4000000 in
theorem Tryd.spread_calls (k n : Nat) (ao : Option Addr) (cap : Nat) (q : List Int) (w : World) (hk : 1 ≤ k) (hk7 : k ≤ 7) (hn4 : n ≤ 400) (hq : q.length = count k n) (hd : q = [] ∨ ∃ b0 off, ao = some ⟨b0, off, none⟩ ∧ IntAt w b0 off q) :
    Calls Tryd.prog 31 #[.int .i64 (k : Int), .int .i64 (n : Int), .slice ao q.length cap] w fun e w' => ∃ v, e = .returned v ∧ HasInts w' v (unpack k n q) ∧ Below w.heap.size w w' := by
  obtain ⟨i0, hi, hz0, hz1, hz2⟩ := info_parts Tryd.info3
  have hmx : Tryd.prog.follows .mixedOrders = true := by kernel_rfl
  have hsl := steps_length k n
  rw [rowsUp_count hk hk7, ← hq] at hsl
  have hmost : n * n ≤ 400 * 400 := Nat.mul_le_mul hn4 hn4
  obtain ⟨L, hL⟩ : ∃ L, q.length = L := ⟨_, rfl⟩
  rw [hL] at hsl ⊢
  obtain ⟨M, hM⟩ : ∃ M, n * n = M := ⟨_, rfl⟩
  rw [hM] at hmost
  have wM : IntKind.i64.wrap ((n : Int) * (n : Int)) = (M : Int) := by rw [← Int.natCast_mul, hM]; exact IntWalk.i64_in _ (by omega)
  have wM' : wrap64 ((n : Int) * (n : Int)) = (M : Int) := by rw [← Int.natCast_mul, hM]; unfold wrap64; omega
  have hLm : L ≤ 160000 := by rw [← hL, hq, ← rowsUp_count hk hk7]; exact rowsUp_most hn4 (Nat.le_refl n)
  have HL := Lib.hid hL
  have HMN := Lib.hid hM
  have HSL := Lib.hid hsl
  have HDD := Lib.hid hd
  have HQ := Lib.hid hq
  clear hL hM hsl hd hq
  refine (callsIn_wide (n := 0)).1 (callsIn_of_wp_marks Tryd.func31 rfl trivial ?_ rfl)
  simp only [Tryd.ntmps31, List.size_toArray, List.length_cons, List.length_nil, Nat.reduceAdd, Nat.reduceSub, Array.replicate_succ, Array.replicate_zero, List.push_toArray, List.append_toArray, List.nil_append, List.cons_append]
  gi_wp2_with (first
    | (gi_at_make; refine wpListIn_make_full _ rfl _ _ 28 rfl 3 i0 (.int .i64 0) Tryd.underlying28 hi hz0 hz1 (M : Int) M rfl rfl rfl (by rw [hz2]; omega) (by unfold maxLen; omega) ?_)
    | (refine ⟨trivial, rfl, ?_⟩; gi_at_call 38; refine (callsIn_wide.2 (Tryd.places_calls _ _ _)).mono ?_; rintro e w' ⟨rfl, rfl⟩))
  obtain ⟨V, hV⟩ : ∃ V, V = (((((((w.alloc (Obj.cells #[Value.int IntKind.i64 (k : Int)] 3)).alloc (Obj.cells #[Value.int IntKind.i64 (n : Int)] 3)).alloc (Obj.cells #[Value.slice ao L cap] 28)).alloc (Obj.cells (madeCells #[Value.int IntKind.i64 0] M) 3)).alloc (Obj.cells #[Value.slice (some ⟨w.heap.size + 1 + 1 + 1, 0, none⟩) M M] 28)).alloc (Obj.cells #[Value.int IntKind.i64 0] 3)).alloc (Obj.cells #[Value.int IntKind.i64 (k : Int)] 3)).alloc (Obj.cells #[Value.int IntKind.i64 (n : Int)] 3) := ⟨_, rfl⟩
  have hVs : V.heap.size = w.heap.size + 1 + 1 + 1 + 1 + 1 + 1 + 1 + 1 := by rw [hV]; simp
  have c0 : Boxed V w.heap.size 3 (.int .i64 (k : Int)) := by rw [hV]; exact (((((((Boxed.new w 3 _).alloc _).alloc _).alloc _).alloc _).alloc _).alloc _).alloc _
  have c1 : Boxed V (w.heap.size + 1) 3 (.int .i64 (n : Int)) := by rw [hV]; exact ((((((Boxed.at 3 _ (by simp)).alloc _).alloc _).alloc _).alloc _).alloc _).alloc _
  have c2 : Boxed V (w.heap.size + 1 + 1) 28 (.slice ao L cap) := by rw [hV]; exact (((((Boxed.at 28 _ (by simp)).alloc _).alloc _).alloc _).alloc _).alloc _
  have c4 : Boxed V (w.heap.size + 1 + 1 + 1 + 1) 28 (.slice (some ⟨w.heap.size + 1 + 1 + 1, 0, none⟩) M M) := by rw [hV]; exact (((Boxed.at 28 _ (by simp)).alloc _).alloc _).alloc _
  have c5 : Boxed V (w.heap.size + 1 + 1 + 1 + 1 + 1) 3 (.int .i64 ((0 : Nat) : Int)) := by rw [hV]; exact ((Boxed.at 3 _ (by simp)).alloc _).alloc _
  have c6 : Boxed V (w.heap.size + 1 + 1 + 1 + 1 + 1 + 1) 3 (.int .i64 (k : Int)) := by rw [hV]; exact (Boxed.at 3 _ (by simp)).alloc _
  have c7 : Boxed V (w.heap.size + 1 + 1 + 1 + 1 + 1 + 1 + 1) 3 (.int .i64 (n : Int)) := by rw [hV]; exact Boxed.at 3 _ (by simp)
  have co : V.ownsRow w.heap.size 3 1 (.slice (some ⟨w.heap.size + 1 + 1 + 1, 0, none⟩) M M) M ((fill q k n 0).map intV) := by
    rw [hV]
    have h := owns_made (((w.alloc (Obj.cells #[Value.int IntKind.i64 (k : Int)] 3)).alloc (Obj.cells #[Value.int IntKind.i64 (n : Int)] 3)).alloc (Obj.cells #[Value.slice ao L cap] 28)) w.heap.size 3 M (by simp; omega) (by unfold maxLen; omega)
    simp only [World.size_alloc] at h
    rw [show fill q k n 0 = List.replicate M 0 by rw [← HMN.out]; rfl]
    exact (((h.alloc _).alloc _).alloc _).alloc _
  have hB : Below w.heap.size w V := by rw [hV]; exact ((((((((Below.refl _ w).alloc (Nat.le_refl _) _).alloc (by simp) _).alloc (by simp; omega) _).alloc (by simp; omega) _).alloc (by simp; omega) _).alloc (by simp; omega) _).alloc (by simp; omega) _).alloc (by simp; omega) _
  rw [← hV]
  clear hV
  refine range_seqO (own := 4) (T := fun _ _ => false) (T' := keepO (fun _ _ => false) (V.heap.size + 2) 4) (gf := 39) (lb := #[.pointer (some ⟨w.heap.size + 1 + 1 + 1 + 1 + 1 + 1, 0, none⟩), .pointer (some ⟨w.heap.size + 1 + 1 + 1 + 1 + 1 + 1 + 1, 0, none⟩)]) rfl enters39
    (Tryd.places1_seq _ (w.heap.size + 1 + 1 + 1 + 1 + 1 + 1) (w.heap.size + 1 + 1 + 1 + 1 + 1 + 1 + 1) k n V hk hk7 hn4 c6 c7) rfl (Below.refl _ _) (fun t x h => by obtain ⟨a, b, rfl, _⟩ := stepsV_get h; rfl)
    (fun t X => Boxed X w.heap.size 3 (.int .i64 (k : Int)) ∧ Boxed X (w.heap.size + 1) 3 (.int .i64 (n : Int)) ∧ Boxed X (w.heap.size + 1 + 1) 28 (.slice ao L cap) ∧ Boxed X (w.heap.size + 1 + 1 + 1 + 1) 28 (.slice (some ⟨w.heap.size + 1 + 1 + 1, 0, none⟩) M M) ∧ Boxed X (w.heap.size + 1 + 1 + 1 + 1 + 1) 3 (.int .i64 (t : Int)) ∧ X.ownsRow w.heap.size 3 1 (.slice (some ⟨w.heap.size + 1 + 1 + 1, 0, none⟩) M M) M ((fill q k n t).map intV) ∧ Below w.heap.size w X)
    (fun _ _ => False)
    (fun t X Y row h hg hr => ⟨boxed_ownR h.1 (by omega) hg hr, boxed_ownR h.2.1 (by omega) hg hr, boxed_ownR h.2.2.1 (by omega) hg hr, boxed_ownR h.2.2.2.1 (by omega) hg hr, boxed_ownR h.2.2.2.2.1 (by omega) hg hr, ownsRow_ownR' h.2.2.2.2.2.1 (by omega) hg hr, below_ownR h.2.2.2.2.2.2 (Nat.le_refl _) (by omega) (by omega) hg hr⟩)
    (fun _ _ _ _ _ h _ _ => h)
    ⟨c0, c1, c2, c4, c5, co, hB⟩
    (fun x a' _ => a' = { tmps := #[.int .i64 (k : Int), .int .i64 (n : Int), .slice ao L cap, .pointer (some ⟨w.heap.size, 0, none⟩), .pointer (some ⟨w.heap.size + 1, 0, none⟩), .pointer (some ⟨w.heap.size + 1 + 1, 0, none⟩), .slice none 0 0, .pointer (some ⟨w.heap.size + 1 + 1 + 1 + 1, 0, none⟩), .pointer (some ⟨w.heap.size + 1 + 1 + 1 + 1 + 1, 0, none⟩), x[0]!, x[1]!, .int .i64 (n : Int), .int .i64 (n : Int), .int .i64 (M : Int), .slice (some ⟨w.heap.size + 1 + 1 + 1, 0, none⟩) M M, .int .i64 (k : Int), .int .i64 (n : Int), .func (.func 39) #[] #[.pointer (some ⟨w.heap.size + 1 + 1 + 1 + 1 + 1 + 1, 0, none⟩), .pointer (some ⟨w.heap.size + 1 + 1 + 1 + 1 + 1 + 1 + 1, 0, none⟩)], x[0]!, x[1]!, undef, undef, undef, undef, undef, undef, undef, undef, undef, undef, undef, undef, undef, undef, undef, undef, undef, undef, undef, undef, undef, undef, undef, undef, undef, undef, undef], defers := [] })
    (fun _ _ _ _ _ _ h _ _ => h) ?assign ?body ?done ?stop
  case assign =>
    intro l t x W K hx hsz hi hK
    obtain ⟨a, b, rfl, hst, ha, hb⟩ := stepsV_get hx
    clear hx
    gi_wp2
    exact hK _ _ (RF.refl _) hi rfl
  case body =>
    rintro l t x a' X hx ds ⟨d0, d1, d2, d4, d5, dO, dB⟩ rfl
    obtain ⟨a, b, rfl, hst, ha, hb⟩ := stepsV_get hx
    clear hx c0 c1 c2 c4 c5 c6 c7 co hB
    have ht := (List.getElem?_eq_some_iff.1 hst).1
    rw [HSL.out] at ht
    obtain ⟨y, hy⟩ : ∃ y, q[t]? = some y := ⟨_, List.getElem?_eq_getElem (by have := HL.out; omega)⟩
    obtain ⟨b0, off, rfl, hdat⟩ := HDD.out.resolve_left (fun e => by rw [e] at hy; cases hy)
    have yw := hdat.2 t y hy
    have YW := Lib.hid yw
    have hb0 := hdat.1
    have dy := (dB.cell (p := ⟨b0, off + t, none⟩) hb0).trans yw
    have hnext := Lib.hid (fill_next (l := q) hst)
    rw [show q.getD t 0 = y by simp [List.getD, hy]] at hnext
    have s1 := step_lt (n := n) ha hb
    have s2 := step_lt (n := n) hb ha
    rw [HMN.out] at s1 s2
    obtain ⟨u, hu⟩ : ∃ u, a * n = u := ⟨_, rfl⟩
    obtain ⟨v, hv⟩ : ∃ v, b * n = v := ⟨_, rfl⟩
    rw [hu] at s1 hnext
    rw [hv] at s2 hnext
    have w1 : IntKind.i64.wrap ((a : Int) * (n : Int)) = (u : Int) := by rw [← Int.natCast_mul, hu]; exact IntWalk.i64_in _ (by omega)
    have w2 : IntKind.i64.wrap ((b : Int) * (n : Int)) = (v : Int) := by rw [← Int.natCast_mul, hv]; exact IntWalk.i64_in _ (by omega)
    have w3 : IntKind.i64.wrap ((u : Int) + (b : Int)) = (u : Int) + (b : Int) := IntWalk.i64_in _ (by omega)
    have w4 : IntKind.i64.wrap ((v : Int) + (a : Int)) = (v : Int) + (a : Int) := IntWalk.i64_in _ (by omega)
    have i1 : (0 : Int) ≤ (u : Int) + (b : Int) := by omega
    have i2 : (0 : Int) ≤ (v : Int) + (a : Int) := by omega
    have i3 : (u : Int) + (b : Int) < (M : Int) := by omega
    have i4 : (v : Int) + (a : Int) < (M : Int) := by omega
    have i5 : ((u : Int) + (b : Int)).toNat = u + b := by omega
    have i6 : ((v : Int) + (a : Int)).toNat = v + a := by omega
    have i7 : (t : Int) < (L : Int) := by omega
    have tl : t ≤ 160000 := by omega
    have F1 := Lib.hid (And.intro w1 (And.intro w3 (And.intro i1 (And.intro i3 i5))))
    have F2 := Lib.hid (And.intro w2 (And.intro w4 (And.intro i2 (And.intro i4 i6))))
    clear hst hy yw hdat hu hv HDD w1 w2 w3 w4 i1 i2 i3 i4 i5 i6
    obtain ⟨dL, hdL⟩ : ∃ dL, fill q k n t = dL := ⟨_, rfl⟩
    rw [hdL] at dO hnext
    have dq := dO
    clear dO hdL wM wM'
    have dr : RF (keepO (fun _ _ => false) (V.heap.size + 2) 4) V.heap.size X X := RF.refl X
    simp only [List.getElem!_toArray, List.getElem!_cons_zero, List.getElem!_cons_succ]
    by_cases hk1 : k = 1
    · have ck : ((k : Int) != 1) = false := by rw [hk1]; rfl
      have HK1 := Lib.hid hk1
      clear hk1
      gi_wp2
      obtain ⟨Y, hY⟩ : ∃ Y, Y = X.drew := ⟨_, rfl⟩
      have e0 : Boxed Y w.heap.size 3 (.int .i64 (k : Int)) := by rw [hY]; exact d0.drew
      have e1 : Boxed Y (w.heap.size + 1) 3 (.int .i64 (n : Int)) := by rw [hY]; exact d1.drew
      have e2 : Boxed Y (w.heap.size + 1 + 1) 28 (.slice (some ⟨b0, off, none⟩) L cap) := by rw [hY]; exact d2.drew
      have e4 : Boxed Y (w.heap.size + 1 + 1 + 1 + 1) 28 (.slice (some ⟨w.heap.size + 1 + 1 + 1, 0, none⟩) M M) := by rw [hY]; exact d4.drew
      have e5 : Boxed Y (w.heap.size + 1 + 1 + 1 + 1 + 1) 3 (.int .i64 (t : Int)) := by rw [hY]; exact d5.drew
      have eB : Below w.heap.size w Y := by rw [hY]; exact dB.drew
      have er : RF (keepO (fun _ _ => false) (V.heap.size + 2) 4) V.heap.size X Y := by rw [hY]; exact dr.drew
      have es : V.heap.size + 2 + 4 ≤ Y.heap.size := by rw [hY]; exact ds
      have eo : Y.ownsRow w.heap.size 3 1 (.slice (some ⟨w.heap.size + 1 + 1 + 1, 0, none⟩) M M) M (dL.map intV) := by rw [hY]; exact dq
      have HY := Lib.hid hY
      clear hY d0 d1 d2 d4 d5 dB dr ds dq dy
      have ey := (eB.cell (p := ⟨b0, off + t, none⟩) hb0).trans YW.out
      obtain ⟨z0, m0⟩ := owns_cell eo (j := u + b) (by omega)
      have fz := World.ownsRow.frozenAt eo (u + b)
      have o1 := (World.ownsRow.stored eo (u + b) (intV y)).1
      rw [map_set] at o1
      have HO := Lib.hid o1
      clear o1
      obtain ⟨w1, w3, i1, i3, i5⟩ := F1.out
      refine wpIn_region_held_at (fun W' => W'.cell? ⟨w.heap.size + 1 + 1 + 1 + 1, 0, none⟩ = some (.slice (some ⟨w.heap.size + 1 + 1 + 1, 0, none⟩) M M) ∧ W'.cell? ⟨w.heap.size + 1, 0, none⟩ = some (.int .i64 (n : Int)) ∧ W'.cell? ⟨w.heap.size + 1 + 1, 0, none⟩ = some (.slice (some ⟨b0, off, none⟩) L cap) ∧ W'.cell? ⟨w.heap.size + 1 + 1 + 1 + 1 + 1, 0, none⟩ = some (.int .i64 (t : Int)) ∧ W'.cell? ⟨b0, off + t, none⟩ = some (.int .i64 y)) (fun ⟨_, _, h⟩ => h) hmx (by kernel_rfl) Y HY.out ⟨e4.cell, e1.cell, e2.cell, e5.cell, ey⟩ (fun hS => ?_)
      refine wpAnyH_take (i := 0) (v := ?_) rfl (by kernel_rfl) (by kernel_rfl) (by kernel_rfl) (fun _ _ _ h => h) (Or.inl ⟨by rfl, ?_⟩) (by assumption) ?_
      rotate_left
      · (intro w0 hSw; (try dsimp only at hSw); obtain ⟨s1, s2, s3, s4, s5⟩ := hSw; go_simp; try with_reducible rfl)
      try dsimp only [Act.put]
      refine wpAnyH_take (i := 1) (v := ?_) rfl (by kernel_rfl) (by kernel_rfl) (by kernel_rfl) (fun _ _ _ h => h) (Or.inl ⟨by rfl, ?_⟩) (by assumption) ?_
      rotate_left
      · (intro w0 hSw; (try dsimp only at hSw); obtain ⟨s1, s2, s3, s4, s5⟩ := hSw; go_simp; try with_reducible rfl)
      try dsimp only [Act.put]
      refine wpAnyH_take (i := 2) (v := ?_) rfl (by kernel_rfl) (by kernel_rfl) (by kernel_rfl) (fun _ _ _ h => h) (Or.inl ⟨by rfl, ?_⟩) (by assumption) ?_
      rotate_left
      · (intro w0 hSw; (try dsimp only at hSw); obtain ⟨s1, s2, s3, s4, s5⟩ := hSw; go_simp; try with_reducible rfl)
      try dsimp only [Act.put]
      refine wpAnyH_take (i := 3) (v := ?_) rfl (by kernel_rfl) (by kernel_rfl) (by kernel_rfl) (fun _ _ _ h => h) (Or.inl ⟨by rfl, ?_⟩) (by assumption) ?_
      rotate_left
      · (intro w0 hSw; (try dsimp only at hSw); obtain ⟨s1, s2, s3, s4, s5⟩ := hSw; go_simp; try with_reducible rfl)
      try dsimp only [Act.put]
      refine wpAnyH_take (i := 4) (v := ?_) rfl (by kernel_rfl) (by kernel_rfl) (by kernel_rfl) (fun _ _ _ h => h) (Or.inl ⟨by rfl, ?_⟩) (by assumption) ?_
      rotate_left
      · (intro w0 hSw; (try dsimp only at hSw); obtain ⟨s1, s2, s3, s4, s5⟩ := hSw; go_simp; try with_reducible rfl)
      try dsimp only [Act.put]
      refine wpAnyH_take (i := 5) (v := ?_) rfl (by kernel_rfl) (by kernel_rfl) (by kernel_rfl) (fun _ _ _ h => h) (Or.inl ⟨by rfl, ?_⟩) (by assumption) ?_
      rotate_left
      · (intro w0 hSw; (try dsimp only at hSw); obtain ⟨s1, s2, s3, s4, s5⟩ := hSw; go_simp; try with_reducible rfl)
      try dsimp only [Act.put]
      refine wpAnyH_take (i := 6) (v := ?_) rfl (by kernel_rfl) (by kernel_rfl) (by kernel_rfl) (fun _ _ _ h => h) (Or.inl ⟨by rfl, ?_⟩) (by assumption) ?_
      rotate_left
      · (intro w0 hSw; (try dsimp only at hSw); obtain ⟨s1, s2, s3, s4, s5⟩ := hSw; go_simp; try with_reducible rfl)
      try dsimp only [Act.put]
      refine wpAnyH_take (i := 7) (v := ?_) rfl (by kernel_rfl) (by kernel_rfl) (by kernel_rfl) (fun _ _ _ h => h) (Or.inl ⟨by rfl, ?_⟩) (by assumption) ?_
      rotate_left
      · (intro w0 hSw; (try dsimp only at hSw); obtain ⟨s1, s2, s3, s4, s5⟩ := hSw; go_simp; try with_reducible rfl)
      try dsimp only [Act.put]
      refine wpAnyH_take (i := 8) (v := ?_) rfl (by kernel_rfl) (by kernel_rfl) (by kernel_rfl) (fun _ _ _ h => h) (Or.inl ⟨by rfl, ?_⟩) (by assumption) ?_
      rotate_left
      · (intro w0 hSw; (try dsimp only at hSw); obtain ⟨s1, s2, s3, s4, s5⟩ := hSw; go_simp; try with_reducible rfl)
      try dsimp only [Act.put]
      refine wpAnyH_take (i := 9) (v := ?_) rfl (by kernel_rfl) (by kernel_rfl) (by kernel_rfl) (fun _ _ _ h => h) (Or.inl ⟨by rfl, ?_⟩) (by assumption) ?_
      rotate_left
      · (intro w0 hSw; (try dsimp only at hSw); obtain ⟨s1, s2, s3, s4, s5⟩ := hSw; go_simp; try with_reducible rfl)
      try dsimp only [Act.put]
      refine wpAnyH_take (i := 10) (v := ?_) rfl (by kernel_rfl) (by kernel_rfl) (by kernel_rfl) (fun _ _ _ h => h) (Or.inl ⟨by rfl, ?_⟩) (by assumption) ?_
      rotate_left
      · (intro w0 hSw; (try dsimp only at hSw); obtain ⟨s1, s2, s3, s4, s5⟩ := hSw; go_simp; try with_reducible rfl)
      try dsimp only [Act.put]
      refine wpAnyH_ready (rs := [11]) (by kernel_rfl) (by simp) (AllReadyH.cons rfl (fun K hK => ?_) AllReadyH.nil)
      go_simp
      clear w1 w3 i1 i3 i5 HY
      obtain ⟨Z, hZ⟩ : ∃ Z, Z = Y.setCell ⟨w.heap.size + 1 + 1 + 1, u + b, none⟩ (.int .i64 y) := ⟨_, rfl⟩
      have f0 : Boxed Z w.heap.size 3 (.int .i64 (k : Int)) := by rw [hZ]; exact boxed_setAt e0 (by omega) _
      have f1 : Boxed Z (w.heap.size + 1) 3 (.int .i64 (n : Int)) := by rw [hZ]; exact boxed_setAt e1 (by omega) _
      have f2 : Boxed Z (w.heap.size + 1 + 1) 28 (.slice (some ⟨b0, off, none⟩) L cap) := by rw [hZ]; exact boxed_setAt e2 (by omega) _
      have f4 : Boxed Z (w.heap.size + 1 + 1 + 1 + 1) 28 (.slice (some ⟨w.heap.size + 1 + 1 + 1, 0, none⟩) M M) := by rw [hZ]; exact boxed_setAt e4 (by omega) _
      have f5 : Boxed Z (w.heap.size + 1 + 1 + 1 + 1 + 1) 3 (.int .i64 (t : Int)) := by rw [hZ]; exact boxed_setAt e5 (by omega) _
      have fB : Below w.heap.size w Z := by rw [hZ]; exact lset_below eB (by omega) _
      have fr : RF (keepO (fun _ _ => false) (V.heap.size + 2) 4) V.heap.size X Z := by rw [hZ]; exact rf_setAt er eo (by simp [keepO]; omega) _ _
      have fs : V.heap.size + 2 + 4 ≤ Z.heap.size := by rw [hZ]; simp; exact es
      have fo : Z.ownsRow w.heap.size 3 1 (.slice (some ⟨w.heap.size + 1 + 1 + 1, 0, none⟩) M M) M ((dL.set (u + b) y).map intV) := by rw [hZ]; exact HO.out
      obtain ⟨S1, hS1⟩ : ∃ S1, S1 = dL.set (u + b) y := ⟨_, rfl⟩
      have HS1 := Lib.hid hS1
      rw [← hS1] at fo
      have fy := (fB.cell (p := ⟨b0, off + t, none⟩) hb0).trans YW.out
      rw [← hZ]
      clear hZ hS1 HO fz m0 hS e0 e1 e2 e4 e5 eB er es eo ey
      refine hK.out _ _ ⟨f4.cell, f1.cell, f2.cell, f5.cell, fy⟩ (fun _ => ?_)
      clear hK K
      refine wpAnyH_done (by kernel_rfl) ?_ _
      have k5 := f5.cell
      have l5 := f5.frozen
      have k0 := f0.cell
      gi_wp2
      refine ⟨fr.set f5 (by simp [keepO]; omega) _, f0.other (by omega) _, f1.other (by omega) _, f2.other (by omega) _, f4.other (by omega) _, ?_, ?_, fB.setCell (p := ⟨w.heap.size + 1 + 1 + 1 + 1 + 1, 0, none⟩) (by simp; omega) _⟩
      · rw [show (((t + 1 : Nat)) : Int) = (t : Int) + 1 by omega]; exact f5.set _
      · rw [hnext.out, if_pos HK1.out, ← HS1.out]
        exact owns_other fo (by omega) _
    · have ck : ((k : Int) != 1) = true := bne_iff_ne.2 (by omega)
      have HK1 := Lib.hid hk1
      clear hk1
      gi_wp2
      obtain ⟨Y, hY⟩ : ∃ Y, Y = X.drew := ⟨_, rfl⟩
      have e0 : Boxed Y w.heap.size 3 (.int .i64 (k : Int)) := by rw [hY]; exact d0.drew
      have e1 : Boxed Y (w.heap.size + 1) 3 (.int .i64 (n : Int)) := by rw [hY]; exact d1.drew
      have e2 : Boxed Y (w.heap.size + 1 + 1) 28 (.slice (some ⟨b0, off, none⟩) L cap) := by rw [hY]; exact d2.drew
      have e4 : Boxed Y (w.heap.size + 1 + 1 + 1 + 1) 28 (.slice (some ⟨w.heap.size + 1 + 1 + 1, 0, none⟩) M M) := by rw [hY]; exact d4.drew
      have e5 : Boxed Y (w.heap.size + 1 + 1 + 1 + 1 + 1) 3 (.int .i64 (t : Int)) := by rw [hY]; exact d5.drew
      have eB : Below w.heap.size w Y := by rw [hY]; exact dB.drew
      have er : RF (keepO (fun _ _ => false) (V.heap.size + 2) 4) V.heap.size X Y := by rw [hY]; exact dr.drew
      have es : V.heap.size + 2 + 4 ≤ Y.heap.size := by rw [hY]; exact ds
      have eo : Y.ownsRow w.heap.size 3 1 (.slice (some ⟨w.heap.size + 1 + 1 + 1, 0, none⟩) M M) M (dL.map intV) := by rw [hY]; exact dq
      have HY := Lib.hid hY
      clear hY d0 d1 d2 d4 d5 dB dr ds dq dy
      have ey := (eB.cell (p := ⟨b0, off + t, none⟩) hb0).trans YW.out
      obtain ⟨z0, m0⟩ := owns_cell eo (j := u + b) (by omega)
      have fz := World.ownsRow.frozenAt eo (u + b)
      have o1 := (World.ownsRow.stored eo (u + b) (intV y)).1
      rw [map_set] at o1
      have HO := Lib.hid o1
      clear o1
      obtain ⟨w1, w3, i1, i3, i5⟩ := F1.out
      refine wpIn_region_held_at (fun W' => W'.cell? ⟨w.heap.size + 1 + 1 + 1 + 1, 0, none⟩ = some (.slice (some ⟨w.heap.size + 1 + 1 + 1, 0, none⟩) M M) ∧ W'.cell? ⟨w.heap.size + 1, 0, none⟩ = some (.int .i64 (n : Int)) ∧ W'.cell? ⟨w.heap.size + 1 + 1, 0, none⟩ = some (.slice (some ⟨b0, off, none⟩) L cap) ∧ W'.cell? ⟨w.heap.size + 1 + 1 + 1 + 1 + 1, 0, none⟩ = some (.int .i64 (t : Int)) ∧ W'.cell? ⟨b0, off + t, none⟩ = some (.int .i64 y)) (fun ⟨_, _, h⟩ => h) hmx (by kernel_rfl) Y HY.out ⟨e4.cell, e1.cell, e2.cell, e5.cell, ey⟩ (fun hS => ?_)
      refine wpAnyH_take (i := 0) (v := ?_) rfl (by kernel_rfl) (by kernel_rfl) (by kernel_rfl) (fun _ _ _ h => h) (Or.inl ⟨by rfl, ?_⟩) (by assumption) ?_
      rotate_left
      · (intro w0 hSw; (try dsimp only at hSw); obtain ⟨s1, s2, s3, s4, s5⟩ := hSw; go_simp; try with_reducible rfl)
      try dsimp only [Act.put]
      refine wpAnyH_take (i := 1) (v := ?_) rfl (by kernel_rfl) (by kernel_rfl) (by kernel_rfl) (fun _ _ _ h => h) (Or.inl ⟨by rfl, ?_⟩) (by assumption) ?_
      rotate_left
      · (intro w0 hSw; (try dsimp only at hSw); obtain ⟨s1, s2, s3, s4, s5⟩ := hSw; go_simp; try with_reducible rfl)
      try dsimp only [Act.put]
      refine wpAnyH_take (i := 2) (v := ?_) rfl (by kernel_rfl) (by kernel_rfl) (by kernel_rfl) (fun _ _ _ h => h) (Or.inl ⟨by rfl, ?_⟩) (by assumption) ?_
      rotate_left
      · (intro w0 hSw; (try dsimp only at hSw); obtain ⟨s1, s2, s3, s4, s5⟩ := hSw; go_simp; try with_reducible rfl)
      try dsimp only [Act.put]
      refine wpAnyH_take (i := 3) (v := ?_) rfl (by kernel_rfl) (by kernel_rfl) (by kernel_rfl) (fun _ _ _ h => h) (Or.inl ⟨by rfl, ?_⟩) (by assumption) ?_
      rotate_left
      · (intro w0 hSw; (try dsimp only at hSw); obtain ⟨s1, s2, s3, s4, s5⟩ := hSw; go_simp; try with_reducible rfl)
      try dsimp only [Act.put]
      refine wpAnyH_take (i := 4) (v := ?_) rfl (by kernel_rfl) (by kernel_rfl) (by kernel_rfl) (fun _ _ _ h => h) (Or.inl ⟨by rfl, ?_⟩) (by assumption) ?_
      rotate_left
      · (intro w0 hSw; (try dsimp only at hSw); obtain ⟨s1, s2, s3, s4, s5⟩ := hSw; go_simp; try with_reducible rfl)
      try dsimp only [Act.put]
      refine wpAnyH_take (i := 5) (v := ?_) rfl (by kernel_rfl) (by kernel_rfl) (by kernel_rfl) (fun _ _ _ h => h) (Or.inl ⟨by rfl, ?_⟩) (by assumption) ?_
      rotate_left
      · (intro w0 hSw; (try dsimp only at hSw); obtain ⟨s1, s2, s3, s4, s5⟩ := hSw; go_simp; try with_reducible rfl)
      try dsimp only [Act.put]
      refine wpAnyH_take (i := 6) (v := ?_) rfl (by kernel_rfl) (by kernel_rfl) (by kernel_rfl) (fun _ _ _ h => h) (Or.inl ⟨by rfl, ?_⟩) (by assumption) ?_
      rotate_left
      · (intro w0 hSw; (try dsimp only at hSw); obtain ⟨s1, s2, s3, s4, s5⟩ := hSw; go_simp; try with_reducible rfl)
      try dsimp only [Act.put]
      refine wpAnyH_take (i := 7) (v := ?_) rfl (by kernel_rfl) (by kernel_rfl) (by kernel_rfl) (fun _ _ _ h => h) (Or.inl ⟨by rfl, ?_⟩) (by assumption) ?_
      rotate_left
      · (intro w0 hSw; (try dsimp only at hSw); obtain ⟨s1, s2, s3, s4, s5⟩ := hSw; go_simp; try with_reducible rfl)
      try dsimp only [Act.put]
      refine wpAnyH_take (i := 8) (v := ?_) rfl (by kernel_rfl) (by kernel_rfl) (by kernel_rfl) (fun _ _ _ h => h) (Or.inl ⟨by rfl, ?_⟩) (by assumption) ?_
      rotate_left
      · (intro w0 hSw; (try dsimp only at hSw); obtain ⟨s1, s2, s3, s4, s5⟩ := hSw; go_simp; try with_reducible rfl)
      try dsimp only [Act.put]
      refine wpAnyH_take (i := 9) (v := ?_) rfl (by kernel_rfl) (by kernel_rfl) (by kernel_rfl) (fun _ _ _ h => h) (Or.inl ⟨by rfl, ?_⟩) (by assumption) ?_
      rotate_left
      · (intro w0 hSw; (try dsimp only at hSw); obtain ⟨s1, s2, s3, s4, s5⟩ := hSw; go_simp; try with_reducible rfl)
      try dsimp only [Act.put]
      refine wpAnyH_take (i := 10) (v := ?_) rfl (by kernel_rfl) (by kernel_rfl) (by kernel_rfl) (fun _ _ _ h => h) (Or.inl ⟨by rfl, ?_⟩) (by assumption) ?_
      rotate_left
      · (intro w0 hSw; (try dsimp only at hSw); obtain ⟨s1, s2, s3, s4, s5⟩ := hSw; go_simp; try with_reducible rfl)
      try dsimp only [Act.put]
      refine wpAnyH_ready (rs := [11]) (by kernel_rfl) (by simp) (AllReadyH.cons rfl (fun K hK => ?_) AllReadyH.nil)
      go_simp
      clear w1 w3 i1 i3 i5 HY
      obtain ⟨Z, hZ⟩ : ∃ Z, Z = Y.setCell ⟨w.heap.size + 1 + 1 + 1, u + b, none⟩ (.int .i64 y) := ⟨_, rfl⟩
      have f0 : Boxed Z w.heap.size 3 (.int .i64 (k : Int)) := by rw [hZ]; exact boxed_setAt e0 (by omega) _
      have f1 : Boxed Z (w.heap.size + 1) 3 (.int .i64 (n : Int)) := by rw [hZ]; exact boxed_setAt e1 (by omega) _
      have f2 : Boxed Z (w.heap.size + 1 + 1) 28 (.slice (some ⟨b0, off, none⟩) L cap) := by rw [hZ]; exact boxed_setAt e2 (by omega) _
      have f4 : Boxed Z (w.heap.size + 1 + 1 + 1 + 1) 28 (.slice (some ⟨w.heap.size + 1 + 1 + 1, 0, none⟩) M M) := by rw [hZ]; exact boxed_setAt e4 (by omega) _
      have f5 : Boxed Z (w.heap.size + 1 + 1 + 1 + 1 + 1) 3 (.int .i64 (t : Int)) := by rw [hZ]; exact boxed_setAt e5 (by omega) _
      have fB : Below w.heap.size w Z := by rw [hZ]; exact lset_below eB (by omega) _
      have fr : RF (keepO (fun _ _ => false) (V.heap.size + 2) 4) V.heap.size X Z := by rw [hZ]; exact rf_setAt er eo (by simp [keepO]; omega) _ _
      have fs : V.heap.size + 2 + 4 ≤ Z.heap.size := by rw [hZ]; simp; exact es
      have fo : Z.ownsRow w.heap.size 3 1 (.slice (some ⟨w.heap.size + 1 + 1 + 1, 0, none⟩) M M) M ((dL.set (u + b) y).map intV) := by rw [hZ]; exact HO.out
      obtain ⟨S1, hS1⟩ : ∃ S1, S1 = dL.set (u + b) y := ⟨_, rfl⟩
      have HS1 := Lib.hid hS1
      rw [← hS1] at fo
      have fy := (fB.cell (p := ⟨b0, off + t, none⟩) hb0).trans YW.out
      rw [← hZ]
      clear hZ hS1 HO fz m0 hS e0 e1 e2 e4 e5 eB er es eo ey
      refine hK.out _ _ ⟨f4.cell, f1.cell, f2.cell, f5.cell, fy⟩ (fun _ => ?_)
      clear hK K
      refine wpAnyH_done (by kernel_rfl) ?_ _
      have k0 := f0.cell
      gi_wp2
      clear k0
      obtain ⟨Y2, hY2⟩ : ∃ Y2, Y2 = Z.drew := ⟨_, rfl⟩
      have g0 : Boxed Y2 w.heap.size 3 (.int .i64 (k : Int)) := by rw [hY2]; exact f0.drew
      have g1 : Boxed Y2 (w.heap.size + 1) 3 (.int .i64 (n : Int)) := by rw [hY2]; exact f1.drew
      have g2 : Boxed Y2 (w.heap.size + 1 + 1) 28 (.slice (some ⟨b0, off, none⟩) L cap) := by rw [hY2]; exact f2.drew
      have g4 : Boxed Y2 (w.heap.size + 1 + 1 + 1 + 1) 28 (.slice (some ⟨w.heap.size + 1 + 1 + 1, 0, none⟩) M M) := by rw [hY2]; exact f4.drew
      have g5 : Boxed Y2 (w.heap.size + 1 + 1 + 1 + 1 + 1) 3 (.int .i64 (t : Int)) := by rw [hY2]; exact f5.drew
      have gB : Below w.heap.size w Y2 := by rw [hY2]; exact fB.drew
      have gr : RF (keepO (fun _ _ => false) (V.heap.size + 2) 4) V.heap.size X Y2 := by rw [hY2]; exact fr.drew
      have gs : V.heap.size + 2 + 4 ≤ Y2.heap.size := by rw [hY2]; exact fs
      have go : Y2.ownsRow w.heap.size 3 1 (.slice (some ⟨w.heap.size + 1 + 1 + 1, 0, none⟩) M M) M (S1.map intV) := by rw [hY2]; exact fo
      have HY2 := Lib.hid hY2
      clear hY2 f0 f1 f2 f4 f5 fB fr fs fo fy
      have gy := (gB.cell (p := ⟨b0, off + t, none⟩) hb0).trans YW.out
      obtain ⟨z0, m0⟩ := owns_cell go (j := v + a) (by omega)
      have fz := World.ownsRow.frozenAt go (v + a)
      have o1 := (World.ownsRow.stored go (v + a) (intV y)).1
      rw [map_set] at o1
      have HO := Lib.hid o1
      clear o1
      obtain ⟨w1, w3, i1, i3, i5⟩ := F2.out
      refine wpIn_region_held_at (fun W' => W'.cell? ⟨w.heap.size + 1 + 1 + 1 + 1, 0, none⟩ = some (.slice (some ⟨w.heap.size + 1 + 1 + 1, 0, none⟩) M M) ∧ W'.cell? ⟨w.heap.size + 1, 0, none⟩ = some (.int .i64 (n : Int)) ∧ W'.cell? ⟨w.heap.size + 1 + 1, 0, none⟩ = some (.slice (some ⟨b0, off, none⟩) L cap) ∧ W'.cell? ⟨w.heap.size + 1 + 1 + 1 + 1 + 1, 0, none⟩ = some (.int .i64 (t : Int)) ∧ W'.cell? ⟨b0, off + t, none⟩ = some (.int .i64 y)) (fun ⟨_, _, h⟩ => h) hmx (by kernel_rfl) Y2 HY2.out ⟨g4.cell, g1.cell, g2.cell, g5.cell, gy⟩ (fun hS => ?_)
      refine wpAnyH_take (i := 0) (v := ?_) rfl (by kernel_rfl) (by kernel_rfl) (by kernel_rfl) (fun _ _ _ h => h) (Or.inl ⟨by rfl, ?_⟩) (by assumption) ?_
      rotate_left
      · (intro w0 hSw; (try dsimp only at hSw); obtain ⟨s1, s2, s3, s4, s5⟩ := hSw; go_simp; try with_reducible rfl)
      try dsimp only [Act.put]
      refine wpAnyH_take (i := 1) (v := ?_) rfl (by kernel_rfl) (by kernel_rfl) (by kernel_rfl) (fun _ _ _ h => h) (Or.inl ⟨by rfl, ?_⟩) (by assumption) ?_
      rotate_left
      · (intro w0 hSw; (try dsimp only at hSw); obtain ⟨s1, s2, s3, s4, s5⟩ := hSw; go_simp; try with_reducible rfl)
      try dsimp only [Act.put]
      refine wpAnyH_take (i := 2) (v := ?_) rfl (by kernel_rfl) (by kernel_rfl) (by kernel_rfl) (fun _ _ _ h => h) (Or.inl ⟨by rfl, ?_⟩) (by assumption) ?_
      rotate_left
      · (intro w0 hSw; (try dsimp only at hSw); obtain ⟨s1, s2, s3, s4, s5⟩ := hSw; go_simp; try with_reducible rfl)
      try dsimp only [Act.put]
      refine wpAnyH_take (i := 3) (v := ?_) rfl (by kernel_rfl) (by kernel_rfl) (by kernel_rfl) (fun _ _ _ h => h) (Or.inl ⟨by rfl, ?_⟩) (by assumption) ?_
      rotate_left
      · (intro w0 hSw; (try dsimp only at hSw); obtain ⟨s1, s2, s3, s4, s5⟩ := hSw; go_simp; try with_reducible rfl)
      try dsimp only [Act.put]
      refine wpAnyH_take (i := 4) (v := ?_) rfl (by kernel_rfl) (by kernel_rfl) (by kernel_rfl) (fun _ _ _ h => h) (Or.inl ⟨by rfl, ?_⟩) (by assumption) ?_
      rotate_left
      · (intro w0 hSw; (try dsimp only at hSw); obtain ⟨s1, s2, s3, s4, s5⟩ := hSw; go_simp; try with_reducible rfl)
      try dsimp only [Act.put]
      refine wpAnyH_take (i := 5) (v := ?_) rfl (by kernel_rfl) (by kernel_rfl) (by kernel_rfl) (fun _ _ _ h => h) (Or.inl ⟨by rfl, ?_⟩) (by assumption) ?_
      rotate_left
      · (intro w0 hSw; (try dsimp only at hSw); obtain ⟨s1, s2, s3, s4, s5⟩ := hSw; go_simp; try with_reducible rfl)
      try dsimp only [Act.put]
      refine wpAnyH_take (i := 6) (v := ?_) rfl (by kernel_rfl) (by kernel_rfl) (by kernel_rfl) (fun _ _ _ h => h) (Or.inl ⟨by rfl, ?_⟩) (by assumption) ?_
      rotate_left
      · (intro w0 hSw; (try dsimp only at hSw); obtain ⟨s1, s2, s3, s4, s5⟩ := hSw; go_simp; try with_reducible rfl)
      try dsimp only [Act.put]
      refine wpAnyH_take (i := 7) (v := ?_) rfl (by kernel_rfl) (by kernel_rfl) (by kernel_rfl) (fun _ _ _ h => h) (Or.inl ⟨by rfl, ?_⟩) (by assumption) ?_
      rotate_left
      · (intro w0 hSw; (try dsimp only at hSw); obtain ⟨s1, s2, s3, s4, s5⟩ := hSw; go_simp; try with_reducible rfl)
      try dsimp only [Act.put]
      refine wpAnyH_take (i := 8) (v := ?_) rfl (by kernel_rfl) (by kernel_rfl) (by kernel_rfl) (fun _ _ _ h => h) (Or.inl ⟨by rfl, ?_⟩) (by assumption) ?_
      rotate_left
      · (intro w0 hSw; (try dsimp only at hSw); obtain ⟨s1, s2, s3, s4, s5⟩ := hSw; go_simp; try with_reducible rfl)
      try dsimp only [Act.put]
      refine wpAnyH_take (i := 9) (v := ?_) rfl (by kernel_rfl) (by kernel_rfl) (by kernel_rfl) (fun _ _ _ h => h) (Or.inl ⟨by rfl, ?_⟩) (by assumption) ?_
      rotate_left
      · (intro w0 hSw; (try dsimp only at hSw); obtain ⟨s1, s2, s3, s4, s5⟩ := hSw; go_simp; try with_reducible rfl)
      try dsimp only [Act.put]
      refine wpAnyH_take (i := 10) (v := ?_) rfl (by kernel_rfl) (by kernel_rfl) (by kernel_rfl) (fun _ _ _ h => h) (Or.inl ⟨by rfl, ?_⟩) (by assumption) ?_
      rotate_left
      · (intro w0 hSw; (try dsimp only at hSw); obtain ⟨s1, s2, s3, s4, s5⟩ := hSw; go_simp; try with_reducible rfl)
      try dsimp only [Act.put]
      refine wpAnyH_ready (rs := [11]) (by kernel_rfl) (by simp) (AllReadyH.cons rfl (fun K hK => ?_) AllReadyH.nil)
      go_simp
      clear w1 w3 i1 i3 i5 HY2
      obtain ⟨Z2, hZ2⟩ : ∃ Z2, Z2 = Y2.setCell ⟨w.heap.size + 1 + 1 + 1, v + a, none⟩ (.int .i64 y) := ⟨_, rfl⟩
      have h0 : Boxed Z2 w.heap.size 3 (.int .i64 (k : Int)) := by rw [hZ2]; exact boxed_setAt g0 (by omega) _
      have h1 : Boxed Z2 (w.heap.size + 1) 3 (.int .i64 (n : Int)) := by rw [hZ2]; exact boxed_setAt g1 (by omega) _
      have h2 : Boxed Z2 (w.heap.size + 1 + 1) 28 (.slice (some ⟨b0, off, none⟩) L cap) := by rw [hZ2]; exact boxed_setAt g2 (by omega) _
      have h4 : Boxed Z2 (w.heap.size + 1 + 1 + 1 + 1) 28 (.slice (some ⟨w.heap.size + 1 + 1 + 1, 0, none⟩) M M) := by rw [hZ2]; exact boxed_setAt g4 (by omega) _
      have h5 : Boxed Z2 (w.heap.size + 1 + 1 + 1 + 1 + 1) 3 (.int .i64 (t : Int)) := by rw [hZ2]; exact boxed_setAt g5 (by omega) _
      have hB : Below w.heap.size w Z2 := by rw [hZ2]; exact lset_below gB (by omega) _
      have hr : RF (keepO (fun _ _ => false) (V.heap.size + 2) 4) V.heap.size X Z2 := by rw [hZ2]; exact rf_setAt gr go (by simp [keepO]; omega) _ _
      have hs : V.heap.size + 2 + 4 ≤ Z2.heap.size := by rw [hZ2]; simp; exact gs
      have ho : Z2.ownsRow w.heap.size 3 1 (.slice (some ⟨w.heap.size + 1 + 1 + 1, 0, none⟩) M M) M ((S1.set (v + a) y).map intV) := by rw [hZ2]; exact HO.out
      obtain ⟨S2, hS2⟩ : ∃ S2, S2 = S1.set (v + a) y := ⟨_, rfl⟩
      have HS2 := Lib.hid hS2
      rw [← hS2] at ho
      have hy := (hB.cell (p := ⟨b0, off + t, none⟩) hb0).trans YW.out
      rw [← hZ2]
      clear hZ2 hS2 HO fz m0 hS g0 g1 g2 g4 g5 gB gr gs go gy
      refine hK.out _ _ ⟨h4.cell, h1.cell, h2.cell, h5.cell, hy⟩ (fun _ => ?_)
      clear hK K
      refine wpAnyH_done (by kernel_rfl) ?_ _
      have k5 := h5.cell
      have l5 := h5.frozen
      have k0 := h0.cell
      gi_wp2
      refine ⟨hr.set h5 (by simp [keepO]; omega) _, h0.other (by omega) _, h1.other (by omega) _, h2.other (by omega) _, h4.other (by omega) _, ?_, ?_, hB.setCell (p := ⟨w.heap.size + 1 + 1 + 1 + 1 + 1, 0, none⟩) (by simp; omega) _⟩
      · rw [show (((t + 1 : Nat)) : Int) = (t : Int) + 1 by omega]; exact h5.set _
      · rw [hnext.out, if_neg HK1.out, ← HS1.out, ← HS2.out]
        exact owns_other ho (by omega) _
  case done =>
    rintro D X hD ⟨d0, d1, d2, d4, d5, dO, dB⟩ hK
    have hc4 := d4.cell
    rw [stepsV_length, ← steps_length, fill_all hk hk7] at dO
    have H2 := Lib.hid dO
    clear dO
    gi_wp2
    refine ⟨by simp, .inl ⟨_, _, rfl, run_takeDeferred hK, ?_⟩⟩
    exact ⟨_, results_tmp rfl _ _ _, _, rfl, hasInts_of_owns (l := unpack k n q) (base := w.heap.size) (e := 3) (by rw [show (unpack k n q).length = M by rw [unpack, grid_length, HMN.out]]; exact ownsRow_putObj H2.out _ hK rfl), dB.put (Nat.le_refl _) (by omega)⟩
  case stop => exact fun _ _ _ _ h _ => h.elim
#print axioms Tryd.spread_calls
end Go.Proofs
