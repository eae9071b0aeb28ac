/- The iterator plan.visits of layer 9: all stops of a plan, with their routes and places; no bound. -/
import Derived.Test.YthgagmndefaniaaG23
import Derived.Test.YthgagmndefaniaaG14
import Derived.OwnWalkIn
import Derived.Deep.OwnRows
import Derived.Maps.AppendAt
namespace Go.Proofs
open Go.RowKit Go.Plans
attribute [local go_sem] Oper.semAt_some

/-- What visits yields: the q-th stop of all, its route, and its place there. -/
def VisitX (rr : Rts) (q : Nat) (x : Array Value) (_ : World) : Prop :=
  ∃ (i j : Nat) (l : List Int) (s : Int), rr[i]? = some l ∧ l[j]? = some s ∧ q = many (rr.take i) + j ∧ x = #[.agg #[.int .i64 (i : Int), .int .i64 (j : Int), .int .i64 s]]

set_option maxRecDepth 100000 in
set_option maxHeartbeats 1000000 in
theorem Try.visits1_seq {T : Nat → TypeId → Bool} (w0 : World) (b : Nat) (v : Value) (rr : Rts) (w : World) (hv : HasRts w0 v rr) (hS : Still w0.heap.size w0 w) (hbox : Boxed w b 28 v) (hT : ∀ b t, b < w0.heap.size ∨ w.heap.size ≤ b → T b t = true) :
    SeqX T Try.prog 81 #[.pointer (some ⟨b, 0, none⟩)] (many rr) (VisitX rr) w := by
  intro ll J Jx W hW hJ hJx hY h0
  have hbW : Boxed W b 28 v := (hW.block b hbox.lt).trans hbox
  have hSW : Still w0.heap.size w0 W := hS.trans ((Still.of_below hW).trans (Still.refl _ _) |> fun h => ⟨h.size, fun k c t z hk hc => h.cells k c t z (Nat.lt_of_lt_of_le hk hS.size) hc⟩)
  have hcW := hbW.cell
  have hwW := hW.size
  have hBW : b < W.heap.size := hbW.lt
  obtain ⟨ao, cap, rfl⟩ := hv.len
  have HV := Lib.hid hv
  obtain ⟨n, hn⟩ : ∃ n, rr.length = n := ⟨_, rfl⟩
  rw [hn] at HV hcW hbW
  have HN := Lib.hid hn
  have HY := Lib.hid hY
  have HT := Lib.hid hT
  have HRc := Lib.hid (fun w => Try.routes_calls (.slice ao n cap) w)
  unfold planV at HRc
  clear hv hn hY hT hbox hS hW
  refine (callsIn_wide (n := 0)).1 (callsIn_of_wp_marks Try.func81 rfl trivial ?_ rfl)
  simp only [Try.ntmps81, List.size_toArray, List.length_cons, List.length_nil, Nat.reduceAdd, Nat.reduceSub, Array.replicate_succ, Array.replicate_zero, List.push_toArray, List.append_toArray, List.nil_append, List.cons_append]
  gi_wp2_with (refine ⟨trivial, rfl, ?_⟩; gi_at_call 82; refine (callsIn_wide.2 (HRc.out _)).mono ?_; rintro e w' ⟨rfl, rfl⟩)
  obtain ⟨V, hV⟩ : ∃ V, V = (W.alloc (Obj.cells #[Value.func (Fn.yield ll) #[] #[]] 113)).alloc (Obj.cells #[Value.slice ao n cap] 28) := ⟨_, rfl⟩
  have hVs : V.heap.size = W.heap.size + 1 + 1 := by rw [hV]; simp
  have b0 : Boxed V W.heap.size 113 (.func (.yield ll) #[] #[]) := by rw [hV]; exact (Boxed.new W 113 _).alloc _
  have b1 : Boxed V (W.heap.size + 1) 28 (.slice ao n cap) := by rw [hV]; exact Boxed.at 28 _ (by simp)
  have j0 : J 0 V := by rw [hV]; exact hJ.alloc _ (hJ.alloc _ h0)
  have sV : Still w0.heap.size w0 V := by rw [hV]; exact (hSW.alloc _).alloc _
  rw [← hV]
  clear hV
  have hup : ∀ {X : World} {row : Option Nat}, (∀ r, row = some r → V.heap.size ≤ r ∧ ∃ o : Obj, X.heap[r]? = some o ∧ o.isCells = false) → (∀ r, row = some r → W.heap.size ≤ r ∧ ∃ o : Obj, X.heap[r]? = some o ∧ o.isCells = false) :=
    fun hr r e => ⟨by have := (hr r e).1; omega, (hr r e).2⟩
  have HJ := Lib.hid hJ
  have HJx := Lib.hid hJx
  clear hJ hJx h0 hSW hcW hbW
  refine range_seqX (gf := 99) (lb := #[.pointer (some ⟨W.heap.size + 1, 0, none⟩)]) rfl (enters_of Try.func99 (by kernel_rfl) rfl)
    (Try.routes1_seq w0 _ (.slice ao n cap) rr V HV.out sV b1 (fun b t h => HT.out b t (.inl h))) (Below.refl _ _) (fun k x X h => by obtain ⟨l, b, u, _, rfl, _⟩ := h; rfl)
    (fun k X => Boxed X W.heap.size 113 (.func (.yield ll) #[] #[]) ∧ Still w0.heap.size w0 X ∧ V.heap.size ≤ X.heap.size ∧ J (many (rr.take k)) X)
    (fun c X => c = .ret ∧ Jx X)
    (fun k X Y row h hg hr => ⟨h.1.own hg hr, h.2.1.own hg hr, Nat.le_trans h.2.2.1 hg.size, HJ.out _ X Y row h.2.2.2 hg (hup hr)⟩)
    (fun c _ X Y row h hg hr => ⟨h.1, HJx.out () X Y row h.2 hg (hup hr)⟩)
    ⟨b0, sV, Nat.le_refl _, by simpa [many] using j0⟩
    (fun k a' X => ∃ (l : List Int) (b' : Nat) (u : Value) (rb : Nat), rr[k]? = some l ∧ V.heap.size ≤ b' ∧ Boxed X b' 23 u ∧ HasInts w0 u l ∧ V.heap.size ≤ rb ∧ Boxed X rb 3 (.int .i64 (k : Int)) ∧
      a' = { tmps := #[.func (.yield ll) #[] #[], .pointer (some ⟨b, 0, none⟩), .pointer (some ⟨W.heap.size, 0, none⟩), .pointer (some ⟨rb, 0, none⟩), .func (.func 105) #[] #[.pointer (some ⟨b', 0, none⟩)], undef, undef, .agg #[.slice ao n cap], .func (.func 99) #[] #[.pointer (some ⟨W.heap.size + 1, 0, none⟩)], .int .i64 (k : Int), .func (.func 105) #[] #[.pointer (some ⟨b', 0, none⟩)], undef, undef, undef, undef, undef, undef, undef, undef, undef, undef], defers := [] })
    (fun k a' _ X Y row h hg hr => by
      obtain ⟨l, b', u, rb, h1, h2, h3, h4, h5, h6, h7⟩ := h
      exact ⟨l, b', u, rb, h1, h2, h3.own hg hr, h4, h5, h6.own hg hr, h7⟩) ?assign ?body ?done ?stop
  case assign =>
    intro l k x X K hkN hVX hx hi hK
    obtain ⟨r, b', u, hr, rfl, hMb, hbu, hru, hst⟩ := hx
    obtain ⟨hy0, hs0, hz0, hj0⟩ := hi
    have HK := Lib.hid hK
    have HR := Lib.hid hru
    have HI := Lib.hid hr
    clear hK hru hr
    gi_wp2
    exact HK.out _ _ ((RF.refl X).alloc _) ⟨hy0.alloc _, hs0.alloc _, by simp; omega, HJ.out.alloc _ hj0⟩ ⟨r, b', u, X.heap.size, HI.out, hMb, hbu.alloc _, HR.out, hVX, Boxed.new _ _ _, rfl⟩
  case body =>
    rintro l0 k a' X hkN hVl hlr ⟨hy0, hs0, hz0, hj0⟩ ⟨r, b', u, rb, hr, hMb, hbu, hru, hrb, hbr, rfl⟩
    have HI := Lib.hid hr
    have hrf0 : RF T V.heap.size X X := RF.refl X
    have ht1 := HT.out W.heap.size 113 (.inr hwW)
    have ht2 := HT.out rb 3 (.inr (by omega))
    clear b0 b1 j0 sV hr
    have hWX : W.heap.size ≤ X.heap.size := by omega
    have hup2 : ∀ {Y : World} {row : Option Nat}, (∀ r, row = some r → X.heap.size ≤ r ∧ ∃ o : Obj, Y.heap[r]? = some o ∧ o.isCells = false) → (∀ r, row = some r → W.heap.size ≤ r ∧ ∃ o : Obj, Y.heap[r]? = some o ∧ o.isCells = false) :=
      fun hr r e => ⟨by have := (hr r e).1; omega, (hr r e).2⟩
    gi_wp2
    refine range_seqX_in hlr (gf := 105) (lb := #[.pointer (some ⟨b', 0, none⟩)]) rfl (enters_of Try.func105 (by kernel_rfl) rfl)
      (Try.All1_seq w0 b' u r X hru hs0 hbu (fun b t h => HT.out b t (.inl h))) (Below.refl _ _) (fun k x X h => by obtain ⟨a, _, rfl⟩ := h; rfl)
      (fun j Y => Boxed Y W.heap.size 113 (.func (.yield ll) #[] #[]) ∧ Boxed Y rb 3 (.int .i64 (k : Int)) ∧ Still w0.heap.size w0 Y ∧ RF T V.heap.size X Y ∧ J (many (rr.take k) + j) Y)
      (fun c Y => c = .ret ∧ RF T V.heap.size X Y ∧ Jx Y)
      (fun j Y Z row h hg hrw => ⟨h.1.own hg hrw, h.2.1.own hg hrw, h.2.2.1.own hg hrw, RF.ownF (Nat.le_refl _) () Y Z row h.2.2.2.1 hg hrw, HJ.out _ Y Z row h.2.2.2.2 hg (hup2 hrw)⟩)
      (fun c _ Y Z row h hg hrw => ⟨h.1, RF.ownF (Nat.le_refl _) () Y Z row h.2.1 hg hrw, HJx.out () Y Z row h.2.2 hg (hup2 hrw)⟩)
      ⟨hy0, hbr, hs0, hrf0, by simpa using hj0⟩
      (fun j a' _ => ∃ s, r[j]? = some s ∧ a' = { tmps := #[.func (.yield ll) #[] #[], .pointer (some ⟨b, 0, none⟩), .pointer (some ⟨W.heap.size, 0, none⟩), .pointer (some ⟨rb, 0, none⟩), .func (.func 105) #[] #[.pointer (some ⟨b', 0, none⟩)], .int .i64 (j : Int), .int .i64 s, .agg #[.slice ao n cap], .func (.func 99) #[] #[.pointer (some ⟨W.heap.size + 1, 0, none⟩)], .int .i64 (k : Int), .func (.func 105) #[] #[.pointer (some ⟨b', 0, none⟩)], .func (.func 105) #[] #[.pointer (some ⟨b', 0, none⟩)], .int .i64 (j : Int), .int .i64 s, undef, undef, undef, undef, undef, undef, undef], defers := [] })
      (fun _ _ _ _ _ _ h _ _ => h) ?ias ?ibo ?ido ?ist
    case ias =>
      intro l j x Y K hjN hXY hx hi hK
      obtain ⟨s, hs, rfl⟩ := hx
      have HK := Lib.hid hK
      have HS := Lib.hid hs
      clear hK hs
      gi_wp2
      exact HK.out _ _ (RF.refl _) hi ⟨s, HS.out, rfl⟩
    case ibo =>
      rintro l1 j a' Y hjN hXl hlr1 ⟨hy1, hb1, hs1, hrf1, hj1⟩ ⟨s, hs, rfl⟩
      obtain ⟨fn, tmps, assign, body, hy, hR⟩ := HY.out (many (rr.take k) + j) _ Y (by
        have h1 := many_take HI.out
        have h2 := many_take_le rr (k + 1)
        omega) (by have := hrf1.size; omega) ⟨k, j, r, s, HI.out, hs, rfl, rfl⟩ hj1
      have hc0 := hy1.cell
      have hc1 := hb1.cell
      have HR := Lib.hid hR
      clear hR hs hj1 hlr hlr1 hy0 hj0 hbu hru hbr
      gi_wp2
      refine ⟨rfl, (HR.out.mono ?_).into l1⟩
      rintro e Y3 ⟨hrf, (⟨rfl, hJ3⟩ | ⟨rfl, hJx3⟩)⟩
      · gi_wp2
        exact ⟨hrf.mono hWX, hrf.boxed hy1 ht1, hrf.boxed hb1 ht2, hs1.rf hrf (fun b t h => HT.out b t (.inl h)), hrf1.trans (hrf.mono (by omega)), hJ3⟩
      · gi_wp2
        exact ⟨hrf.mono hWX, rfl, hrf1.trans (hrf.mono (by omega)), hJx3⟩
    case ido =>
      rintro Y ⟨hy1, hb1, hs1, hrf1, hj1⟩
      rw [← many_take HI.out] at hj1
      exact ⟨hrf1, hy1, hs1, Nat.le_trans hz0 hrf1.size, hj1⟩
    case ist =>
      rintro c Y ⟨rfl, hrf1, hjx⟩
      gi_wp2
      exact ⟨hrf1, rfl, hjx⟩
  case done =>
    rintro D X hD ⟨hy0, hs0, hz0, hj0⟩ hK
    rw [List.take_length] at hj0
    gi_wp2
    refine ⟨by simp, .inl ⟨_, _, rfl, run_takeDeferred hK, ?_⟩⟩
    refine ⟨_, results_none rfl _ _ _, ⟨_, rfl⟩, .inl ?_⟩
    exact HJ.out.putObj _ hj0 (by omega) hK rfl
  case stop =>
    rintro D c X hD ⟨rfl, hjx⟩ hK
    gi_wp2
    refine ⟨by simp, .inl ⟨_, _, rfl, run_takeDeferred hK, ?_⟩⟩
    refine ⟨_, results_none rfl _ _ _, ⟨_, rfl⟩, .inr ?_⟩
    exact HJx.out.putObj (s := ()) _ hjx (by omega) hK rfl
#print axioms Try.visits1_seq
end Go.Proofs
/- Rows that a call has made, within a round; no program. -/
namespace Go.Proofs
open Go.RowKit
attribute [local go_sem] Oper.semAt_some

theorem wpListIn_make_fullP {F : Fence} {n : Nat} {P : Program} (w : World) {ops : Array Oper} {rest : List Oper} {o : Oper} {a : Act} {Q : Exit → Act → World → Prop}
    (hg : o.guard = none) (l c : Operand) (t : TypeId) (hop : o.op = Op.makeSlice t l c)
    (e : TypeId) (i : TypeInfo) (z : Value) (h1 : P.underlying t = some (.slice e)) (h2 : P.info? e = some i) (h3 : i.zero = some z) (h4 : i.size = 1)
    (C : Int) (m : Nat) (hl : a.eval l = .int .i64 C) (hc : a.eval c = .int .i64 C) (hC : C = (m : Int)) (b2 : i.bytes * m ≤ 281474976710656) (b3 : m ≤ maxLen)
    (hK : wpListIn F n P ops Q rest (a.put o.dst (.slice (some ⟨w.heap.size, 0, none⟩) m m)) (w.alloc (.cells (madeCells z.cells m) e))) :
    wpListIn F n P ops Q (o :: rest) a w := by
  refine wpListIn_plain hg fun K hK' => ?_
  subst hC
  have hb : (i.bytes : Int) * (m : Int) ≤ 281474976710656 := by
    have h : ((i.bytes * m : Nat) : Int) ≤ 281474976710656 := by omega
    rwa [Int.natCast_mul] at h
  have hr := run_make (P := P) w t e i z h1 h2 h3 .i64 .i64 (m : Int) (m : Int) (by omega) (Int.le_refl _) hb (by have h := b3; simp [maxLen] at h; omega)
  simp only [Int.toNat_natCast, h4, Nat.mul_one] at hr
  unfold Oper.wpIn
  refine ⟨?_, ?_⟩
  · simp [Oper.about, hop]
  · rw [Oper.semAt_plain F _ _ (by rw [hop]; intro c hc'; cases hc')]
    simp [execOp, hop, hl, hc, hr, Result.andThen]
    exact hK' _ _ hK
theorem powns_made (w : World) (base : Nat) (e : TypeId) (m : Nat) (hb : base ≤ w.heap.size) (hm : m ≤ maxLen) : (w.alloc (.cells (madeCells #[.int .i64 0] m) e)).ownsRow base e 1 (.slice (some ⟨w.heap.size, 0, none⟩) m m) m ((List.replicate m 0).map intV) := by
  refine ⟨by simp, .inr ⟨w.heap.size, m, _, rfl, hb, World.alloc_heap_new w _, Nat.le_refl _, hm, by simp [madeCells], ?_⟩⟩
  apply List.ext_getElem?
  intro j
  by_cases hj : j < m
  · simp [madeCells, hj, intV, Nat.mod_one]
  · rw [List.getElem?_eq_none (by simp [madeCells]; omega), List.getElem?_eq_none (by simp; omega)]
theorem pgrownBy_setAt (W : World) (b j : Nat) (v : Value) : W.grownBy (W.setCell ⟨b, j, none⟩ v) (some b) :=
  ⟨rfl, rfl, rfl, (KeepsWalks.setCell W _ v).size, fun k _ hk => Below.heap_setCell _ _ _ k (fun e => hk (by rw [e]))⟩
theorem pboxed_setAt {W : World} {b g j : Nat} {t : TypeId} {u : Value} (h : Boxed W b t u) (hne : b ≠ g) (v : Value) : Boxed (W.setCell ⟨g, j, none⟩ v) b t u := h.kept (pgrownBy_setAt W g j v) (fun e => hne (by cases e; rfl))
theorem prf_setAt {T : Nat → TypeId → Bool} {B base c cap g : Nat} {X Y : World} {e : TypeId} {xs : List Value} (h : RF T B X Y) (hrow : Y.ownsRow base e 1 (.slice (some ⟨g, 0, none⟩) c cap) c xs) (hT : T g e = false) (j : Nat) (v : Value) : RF T B X (Y.setCell ⟨g, j, none⟩ v) := by
  refine h.grown (pgrownBy_setAt Y g j v) fun k ek o ho => ?_
  cases ek
  rcases hrow.2 with ⟨h0, _⟩ | ⟨g', cap', cur, he, hbg, hgb, _⟩
  · cases h0
  · simp only [Value.slice.injEq, Option.some.injEq, Addr.mk.injEq, and_true, true_and] at he
    obtain ⟨rfl, rfl⟩ := he
    rw [hgb] at ho; cases ho; exact ⟨_, _, _, rfl, hT⟩
theorem pownsRow_own {X Y : World} {base B' g c cap : Nat} {e : TypeId} {size : Nat} {k : Nat} {xs : List Value} (h2 : X.ownsRow base e size (.slice (some ⟨g, 0, none⟩) c cap) k xs) (hb : g < B') {row : Option Nat} (hg : X.grownBy Y row)
    (hr : ∀ r, row = some r → B' ≤ r ∧ ∃ o : Obj, X.heap[r]? = some o ∧ o.isCells = false) : Y.ownsRow base e size (.slice (some ⟨g, 0, none⟩) c cap) k xs :=
  h2.kept hg (.inr fun e' => by have := (hr g e'.symm).1; omega)
theorem owns_at {W : World} {base : Nat} {e : TypeId} {g c cap : Nat} {L : List Int} {x : Int} (h : W.ownsRow base e 1 (.slice (some ⟨g, 0, none⟩) c cap) c (L.map intV)) {j : Nat} (hj : j < c) (hx : L[j]? = some x) : W.cell? ⟨g, j, none⟩ = some (.int .i64 x) := by
  rw [World.ownsRow.cellAt h j (by omega)]
  simp [hx, intV]
end Go.Proofs
/- feas.Loads of the program. Conditions: a route of a million stops at most; an instance that may be relied on. -/
namespace Go.Feas
theorem set_zeros (A : List Int) (m : Nat) (u : Int) : (A ++ List.replicate (m + 1) 0).set A.length u = (A ++ [u]) ++ List.replicate m 0 := by
  rw [List.set_append_right _ _ (Nat.le_refl _), Nat.sub_self, List.replicate_succ, List.set_cons_zero, List.append_assoc, List.singleton_append]
end Go.Feas
namespace Go.Proofs
open Go.RowKit Go.Shelf Go.Canon Go.Feas Go.Plans
attribute [local go_sem] Oper.semAt_some
/-- An instance in its box, and a row that the call has made: all of it there from the first. -/
structure MadeS (w : World) (x : Ins) (vn vm : Value) (g n : Nat) (xs : List Int) (W : World) : Prop where
  box : InsBox W w.heap.size x vn vm 25
  below : Below w.heap.size w W
  row : W.ownsRow (w.heap.size + 1) 3 1 (.slice (some ⟨g, 0, none⟩) n n) n (xs.map intV)
theorem MadeS.next {w W W' : World} {x : Ins} {vn vm : Value} {g n : Nat} {xs : List Int} (h : MadeS w x vn vm g n xs W) (hb : Below W.heap.size W W') : MadeS w x vn vm g n xs W' :=
  ⟨h.box.next hb, h.below.trans (hb.mono h.below.size), fowns_next h.row hb⟩
theorem MadeS.set {w W : World} {x : Ins} {vn vm : Value} {g n : Nat} {xs : List Int} (h : MadeS w x vn vm g n xs W) (j : Nat) (u : Int) : MadeS w x vn vm g n (xs.set j u) (W.setCell ⟨g, j, none⟩ (.int .i64 u)) := by
  have hg : W.grownBy (W.setCell ⟨g, j, none⟩ (.int .i64 u)) (Value.slice (some ⟨g, 0, none⟩) n n).ownBlock := pgrownBy_setAt W g j _
  have o1 := (World.ownsRow.stored h.row j (intV u)).1
  refine ⟨h.box.grown (Nat.lt_succ_self _) h.row hg, fgrown_below h.below h.below.size (Nat.le_succ _) h.row hg, ?_⟩
  rw [List.map_set]
  exact o1
theorem madeS_start {w W : World} {x : Ins} {vn vm : Value} (hb : InsBox W w.heap.size x vn vm 25) (hR : Below w.heap.size w W) (n : Nat) (hn : n ≤ maxLen) : MadeS w x vn vm W.heap.size n (List.replicate n 0) (W.alloc (.cells (madeCells #[.int .i64 0] n) 3)) :=
  ⟨hb.alloc _, hR.alloc hR.size _, powns_made W (w.heap.size + 1) 3 n hb.lt hn⟩
set_option maxRecDepth 100000 in
set_option maxHeartbeats 1000000 in
theorem Try.Loads_calls (x : Ins) (vn vm v : Value) (r : List Int) (w : World) (hx : HasIns w vn vm x) (hg : Fine x) (hl : r.length ≤ 1000000) (hv : HasInts w v r) :
    Calls Try.prog 23 #[insV x vn vm, v] w fun e w' => ∃ v', e = .returned v' ∧ HasInts w' v' (loads x r) ∧ Below w.heap.size w w' := by
  obtain ⟨i0, hi, hz0, hz1, hz2⟩ := info_parts Try.info3
  have HI := Lib.hid hi
  have HX := Lib.hid hx
  have HQ := Lib.hid fun W h k => Try.allNodes_calls x vn vm v r W h hl k
  obtain ⟨b, off, cn, rfl, hlc, hcm, hNo⟩ := hx.all hg.lo
  obtain ⟨am, cm, rfl, _⟩ := hx.matrix.dat
  have HV := Lib.hid hv
  obtain ⟨ar, cr, rfl⟩ := hv.len
  obtain ⟨n, hn⟩ : ∃ n, r.length = n := ⟨_, rfl⟩
  rw [hn] at hl HV HQ ⊢
  have HN := Lib.hid hn
  obtain ⟨L, hL⟩ : ∃ L, x.nodes.length = L := ⟨_, rfl⟩
  have HL := Lib.hid hL
  have HNO := Lib.hid fun i hi => nodesAt_nd hNo (i := i) hi
  have hbw := hNo.1
  rw [hL] at HX HQ ⊢
  have HG := Lib.hid hg
  unfold insV at HQ ⊢
  clear hx hv hn hL hg hi hNo
  have HB0 := Lib.hid (InsBox.new w x (.slice (some ⟨b, off, none⟩) L cn) (.slice am x.matrix.length cm) 25)
  have HR0 := Lib.hid (fbelow_box w (.cells #[.string x.name, .int .i64 x.kind, .int .i64 x.metric, .int .i64 x.scale, .int .i64 x.cap, .int .i64 x.fleet, .slice (some ⟨b, off, none⟩) L cn, .slice am x.matrix.length cm] 25))
  cases hnb : nodesB x r with
  | false =>
    have HF : Hid (loads x r = []) := by unfold loads; rw [hnb]; rfl
    rw [hnb] at HQ
    clear hnb
    go_enter Try.func23, Try.ntmps23
    go_wp2_with (go_at_call 37; (with_reducible refine (HQ.out _ (HX.out.next HR0.out) (HV.out.next HR0.out)).mono ?_); rintro e w1 ⟨rfl, hb1⟩)
    go_ret
    exact ⟨_, rfl, by rw [HF.out]; exact .inl ⟨rfl, _, _, rfl⟩, HR0.out.trans (hb1.mono HR0.out.size)⟩
  | true =>
    have HT : Hid (nodesB x r = true) := hnb
    have HF : Hid (loads x r = (loadsF x r).2) := by unfold loads; rw [hnb]; rfl
    rw [hnb] at HQ
    clear hnb
    have hnm : n ≤ maxLen := by unfold maxLen; omega
    go_enter Try.func23, Try.ntmps23
    go_wp2_with (first
      | (go_at_call 37; (with_reducible refine (HQ.out _ (HX.out.next HR0.out) (HV.out.next HR0.out)).mono ?_); rintro e w1 ⟨rfl, hb1⟩; have HS0 := Lib.hid (madeS_start (HB0.out.next hb1) (HR0.out.trans (hb1.mono HR0.out.size)) n hnm))
      | (at_make; refine wpList_make_row _ rfl _ _ 23 rfl 3 i0 (.int .i64 0) Try.underlying23 HI.out hz0 hz1 rfl .i64 .i64 n rfl rfl (by rw [hz2]; omega) (by omega) ?_))
    obtain ⟨g, hgg⟩ : ∃ g, w1.heap.size = g := ⟨_, rfl⟩
    rw [hgg] at HS0 ⊢
    clear hgg hb1 HB0 HR0 HQ HX hz0 hz1 hz2 HI
    go_loopw [6, 18] (fun sm i wr => ∃ k : Nat, k ≤ n ∧ i = .int .i64 (k : Int) ∧ sm = .int .i64 (loadsF x (r.take k)).1 ∧ MadeS w x (.slice (some ⟨b, off, none⟩) L cn) (.slice am x.matrix.length cm) g n ((loadsF x (r.take k)).2 ++ List.replicate (n - k) 0) wr) (fun _ i _ => n - (intOf i).toNat)
    case atStart => exact ⟨0, Nat.zero_le _, rfl, rfl, HS0.out⟩
    case round =>
      obtain ⟨k, hk, rfl, rfl, hS⟩ := hrel
      have HS := Lib.hid hS
      clear HS0
      by_cases hlt : k < n
      · obtain ⟨s, hs⟩ : ∃ s, r[k]? = some s := ⟨_, List.getElem?_eq_getElem (by have := HN.out; omega)⟩
        have hki : (k : Int) < (n : Int) := by omega
        obtain ⟨b2, off2, cap, e, _, _, hbw2, hc⟩ := HV.out.atc hs
        rw [HN.out] at e
        injection e with h1 h2 h3
        subst h1
        subst h3
        clear h2
        have hc := (hS.below.cell (p := ⟨b2, off2 + k, none⟩) hbw2).trans hc
        have c6 := hS.box.c 6
        have hsn := nodeB_lt (nodesB_at HT.out hs)
        have HE := Lib.hid (by rw [ptake_snoc hs, loadsF_snoc] : loadsF x (r.take (k + 1)) = loadStep x (loadsF x (r.take k)) s)
        have hbd := loadsF_bounds HG.out (r.take k)
        have hlen := loadsF_length x (r.take k)
        rw [List.length_take, Nat.min_eq_left (by have := HN.out; omega)] at hbd hlen
        obtain ⟨m, rfl⟩ : ∃ m : Nat, s = (m : Int) := ⟨s.toNat, by omega⟩
        rw [HL.out] at hsn
        simp only [Int.toNat_natCast] at hsn
        have hmL := hsn.2.2
        have hD := (HNO.out m (by have := HL.out; omega)).below hS.below hbw
        have hdem := HG.out.demand m
        have hd2 := hD.demand
        have HD : Hid ((nd x (m : Int)).demand = (at' x m).demand) := by unfold nd; rw [Int.toNat_natCast]; rfl
        generalize (at' x m).demand = dm at hd2 hdem HD
        have HST : Hid ((loadStep x (loadsF x (r.take k)) (m : Int)) = ((loadsF x (r.take k)).1 + dm, (loadsF x (r.take k)).2 ++ [(loadsF x (r.take k)).1 + dm])) := by unfold Hid loadStep; rw [HD.out]
        have hz := owns_cell hS.row hlt
        have hfz := World.ownsRow.frozenAt hS.row k
        obtain ⟨z0, hz⟩ := hz
        generalize loadsF x (r.take k) = t at *
        obtain ⟨t1, t2⟩ := t
        simp only at hbd hlen HS HST ⊢
        have HSet : Hid (MadeS w x (.slice (some ⟨b, off, none⟩) L cn) (.slice am x.matrix.length cm) g n ((t2 ++ [t1 + dm]) ++ List.replicate (n - (k + 1)) 0) (wr.setCell ⟨g, k, none⟩ (.int .i64 (t1 + dm)))) := by
          have h := HS.out.set k (t1 + dm)
          have e : n - k = n - (k + 1) + 1 := by omega
          rw [e] at h
          have e2 := set_zeros t2 (n - (k + 1)) (t1 + dm)
          rw [hlen] at e2
          rw [e2] at h
          exact h
        have hk1 : (k : Int) ≤ 1000000 := by omega
        clear hs hD hS HS hlen
        go_wp2
        go_roundw
        case rel => exact ⟨k + 1, by omega, by go_num, by rw [HE.out, HST.out], by rw [HE.out, HST.out]; exact HSet.out⟩
        case measure => simp [intOf]; omega
      · obtain rfl : k = n := by omega
        have e : (loadsF x (r.take k)) = loadsF x r := by rw [List.take_of_length_le (by have := HN.out; omega)]
        have HO2 : Hid (HasInts wr (.slice (some ⟨g, 0, none⟩) k k) (loads x r)) := by
          have h := HS.out.row
          rw [e, Nat.sub_self, List.replicate_zero, List.append_nil] at h
          have el : (loadsF x r).2.length = k := (loadsF_length x r).trans HN.out
          have h2 := hasInts_of_owns (show wr.ownsRow (w.heap.size + 1) 3 1 (.slice (some ⟨g, 0, none⟩) k k) (loadsF x r).2.length ((loadsF x r).2.map intV) by rw [el]; exact h)
          unfold Hid; rw [HF.out]; exact h2
        clear e hS
        go_wp2
        go_ret
        exact ⟨_, rfl, HO2.out, HS.out.below⟩
end Go.Proofs
/- A vehicle on its way: when it comes to a node, and how it serves it. Conditions: the nodes are there, the instance may be relied on. -/
namespace Go.Proofs
open Go.RowKit Go.Shelf Go.Canon Go.Feas Go.Plans
attribute [local go_sem] Oper.semAt_some
attribute [local go_sem ↓] Go.wp_at_zero Go.wp_at_succ
def vehC (x : Ins) (vn vm : Value) (u p l : Int) : Array Value := #[.string x.name, .int .i64 x.kind, .int .i64 x.metric, .int .i64 x.scale, .int .i64 x.cap, .int .i64 x.fleet, vn, vm, .int .i64 u, .int .i64 p, .int .i64 l]
/-- A vehicle in a box: an instance, the unit, where it is, when it leaves. -/
def VBox (W : World) (B : Nat) (x : Ins) (vn vm : Value) (u p l : Int) : Prop := W.heap[B]? = some (.cells (vehC x vn vm u p l) 73)
theorem VBox.new (w : World) (x : Ins) (vn vm : Value) (u p l : Int) : VBox (w.alloc (.cells (vehC x vn vm u p l) 73)) w.heap.size x vn vm u p l := World.alloc_heap_new w _
theorem VBox.lt {W : World} {B : Nat} {x : Ins} {vn vm : Value} {u p l : Int} (h : VBox W B x vn vm u p l) : B < W.heap.size := (Array.getElem?_eq_some_iff.1 h).1
theorem VBox.next {W W' : World} {B : Nat} {x : Ins} {vn vm : Value} {u p l : Int} (h : VBox W B x vn vm u p l) (hb : Below W.heap.size W W') : VBox W' B x vn vm u p l := (hb.block B h.lt).trans h
theorem VBox.alloc {W : World} {B : Nat} {x : Ins} {vn vm : Value} {u p l : Int} (h : VBox W B x vn vm u p l) (o : Obj) : VBox (W.alloc o) B x vn vm u p l := h.next (fbelow_box W o)
theorem VBox.grown {W W' : World} {B : Nat} {x : Ins} {vn vm : Value} {u p l : Int} {row : Option Nat} (h : VBox W B x vn vm u p l) (hg : W.grownBy W' row) (hne : row ≠ some B) : VBox W' B x vn vm u p l := (hg.block B h.lt (fun e => hne e.symm)).trans h
theorem VBox.c {W : World} {B : Nat} {x : Ins} {vn vm : Value} {u p l : Int} (h : VBox W B x vn vm u p l) (j : Nat) : W.cell? ⟨B, j, none⟩ = (vehC x vn vm u p l)[j]? := by
  unfold World.cell?; unfold VBox at h; rw [h]; rfl
theorem VBox.cells {W : World} {B : Nat} {x : Ins} {vn vm : Value} {u p l : Int} (h : VBox W B x vn vm u p l) :
    W.cell? ⟨B, 0, none⟩ = some (.string x.name) ∧ W.cell? ⟨B, 1, none⟩ = some (.int .i64 x.kind) ∧ W.cell? ⟨B, 2, none⟩ = some (.int .i64 x.metric) ∧ W.cell? ⟨B, 3, none⟩ = some (.int .i64 x.scale) ∧ W.cell? ⟨B, 4, none⟩ = some (.int .i64 x.cap) ∧ W.cell? ⟨B, 5, none⟩ = some (.int .i64 x.fleet) ∧ W.cell? ⟨B, 6, none⟩ = some vn ∧ W.cell? ⟨B, 7, none⟩ = some vm ∧ W.cell? ⟨B, 8, none⟩ = some (.int .i64 u) ∧ W.cell? ⟨B, 9, none⟩ = some (.int .i64 p) ∧ W.cell? ⟨B, 10, none⟩ = some (.int .i64 l) :=
  ⟨h.c 0, h.c 1, h.c 2, h.c 3, h.c 4, h.c 5, h.c 6, h.c 7, h.c 8, h.c 9, h.c 10⟩
theorem VBox.frozen {W : World} {B : Nat} {x : Ins} {vn vm : Value} {u p l : Int} (h : VBox W B x vn vm u p l) (j : Nat) : W.frozen? ⟨B, j, none⟩ = false := by
  unfold World.frozen?; unfold VBox at h; rw [h]; rfl
theorem VBox.setP {W : World} {B : Nat} {x : Ins} {vn vm : Value} {u p l : Int} (h : VBox W B x vn vm u p l) (q : Int) : VBox (W.setCell ⟨B, 9, none⟩ (.int .i64 q)) B x vn vm u q l := by
  unfold VBox at h ⊢
  unfold World.setCell
  show (W.heap.modify B _)[B]? = _
  rw [Array.getElem?_modify, if_pos rfl, h]
  rfl
theorem VBox.setL {W : World} {B : Nat} {x : Ins} {vn vm : Value} {u p l : Int} (h : VBox W B x vn vm u p l) (q : Int) : VBox (W.setCell ⟨B, 10, none⟩ (.int .i64 q)) B x vn vm u p q := by
  unfold VBox at h ⊢
  unfold World.setCell
  show (W.heap.modify B _)[B]? = _
  rw [Array.getElem?_modify, if_pos rfl, h]
  rfl
structure VS (B : Nat) (x : Ins) (vn vm : Value) (u p l : Int) (w W : World) : Prop where
  box : VBox W B x vn vm u p l
  below : Below w.heap.size w W
theorem VS.next {B : Nat} {x : Ins} {vn vm : Value} {u p l : Int} {w W W' : World} (h : VS B x vn vm u p l w W) (hb : Below W.heap.size W W') : VS B x vn vm u p l w W' := ⟨h.box.next hb, h.below.trans (hb.mono h.below.size)⟩
theorem VS.drew {B : Nat} {x : Ins} {vn vm : Value} {u p l : Int} {w W : World} (h : VS B x vn vm u p l w W) : VS B x vn vm u p l w W.drew := ⟨h.box, h.below.drew⟩
theorem vS_S {B : Nat} {x : Ins} {vn vm : Value} {u p l : Int} {w W : World} (h : VS B x vn vm u p l w W) : W.cell? ⟨B, 0, none⟩ = some (.string x.name) ∧ W.cell? ⟨B, 1, none⟩ = some (.int .i64 x.kind) ∧ W.cell? ⟨B, 2, none⟩ = some (.int .i64 x.metric) ∧ W.cell? ⟨B, 3, none⟩ = some (.int .i64 x.scale) ∧ W.cell? ⟨B, 4, none⟩ = some (.int .i64 x.cap) ∧ W.cell? ⟨B, 5, none⟩ = some (.int .i64 x.fleet) ∧ W.cell? ⟨B, 6, none⟩ = some vn ∧ W.cell? ⟨B, 7, none⟩ = some vm ∧ W.cell? ⟨B, 9, none⟩ = some (.int .i64 p) ∧ VS B x vn vm u p l w W := by
  obtain ⟨c0, c1, c2, c3, c4, c5, c6, c7, c8, c9, c10⟩ := h.box.cells
  exact ⟨c0, c1, c2, c3, c4, c5, c6, c7, c9, h⟩
set_option maxRecDepth 100000 in
theorem Try.comes_calls (x : Ins) (vn vm : Value) (B : Nat) (u l : Int) (i j : Nat) (w : World) (hx : HasIns w vn vm x) (hg : Fine x) (hi : i < x.nodes.length) (hj : j < x.nodes.length) (hl : 0 ≤ l ∧ l ≤ 4000000000000000000) (hB : VBox w B x vn vm u (i : Int) l) :
    Calls Try.prog 39 #[.pointer (some ⟨B, 0, none⟩), .int .i64 (j : Int)] w fun e w' => e = .returned (.tuple #[.int .i64 (l + way x i j), .int .i64 0]) ∧ Below w.heap.size w w' := by
  have HX := Lib.hid hx
  have HW := Lib.hid fun W h => Try.Between_calls x vn vm i j W h hg hi hj
  obtain ⟨an, cn, rfl, _⟩ := hx.nodes.dat
  obtain ⟨am, cm, rfl, _⟩ := hx.matrix.dat
  have hwb := way_bounds hg hi hj
  have HS0 : Hid (VS B x (.slice an x.nodes.length cn) (.slice am x.matrix.length cm) u (i : Int) l w w) := ⟨hB, Below.refl _ _⟩
  unfold insV at HW
  clear hx hg hi hj
  generalize way x i j = wy at *
  generalize x.nodes.length = L at *
  generalize x.matrix.length = M at *
  obtain ⟨c0, c1, c2, c3, c4, c5, c6, c7, c8, c9, c10⟩ := hB.cells
  have hn0 : (i : Int) = ((i : Nat) : Int) := rfl
  clear hB hn0
  go_enter Try.func39, Try.ntmps39
  go_wp2_with (fail)
  go_region_held3 (fun W => W.cell? ⟨B, 0, none⟩ = some (.string x.name) ∧ W.cell? ⟨B, 1, none⟩ = some (.int .i64 x.kind) ∧ W.cell? ⟨B, 2, none⟩ = some (.int .i64 x.metric) ∧ W.cell? ⟨B, 3, none⟩ = some (.int .i64 x.scale) ∧ W.cell? ⟨B, 4, none⟩ = some (.int .i64 x.cap) ∧ W.cell? ⟨B, 5, none⟩ = some (.int .i64 x.fleet) ∧ W.cell? ⟨B, 6, none⟩ = some (.slice an L cn) ∧ W.cell? ⟨B, 7, none⟩ = some (.slice am M cm) ∧ W.cell? ⟨B, 9, none⟩ = some (.int .i64 (i : Int)) ∧ VS B x (.slice an L cn) (.slice am M cm) u (i : Int) l w W)
    ((go_split_ands; (first | exact vS_S HS0.out.drew | exact vS_S (by assumption) | exact vS_S (VS.drew (by assumption)) | exact vS_S (VS.next (by assumption) (by assumption)))))
    ((go_at_call 44; (with_reducible refine (HW.out _ (by go_split_ands; first | exact HX.out.next (VS.below (by assumption)) | exact HX.out.next (VS.drew (by assumption)).below)).mono ?_); rintro e w3 ⟨rfl, hb3⟩))
  have T := (show _ ∧ _ ∧ _ ∧ _ ∧ _ ∧ _ ∧ _ ∧ _ ∧ _ ∧ VS B x (.slice an L cn) (.slice am M cm) u (i : Int) l w w3 by assumption).2.2.2.2.2.2.2.2.2
  have HT := Lib.hid T
  clear c0 c1 c2 c3 c4 c5 c6 c7 c8 c9 c10
  have c10 := T.box.c 10
  unfold vehC at c10
  rename_i hh
  clear hh T
  go_wp2
  go_ret2
  exact ⟨rfl, HT.out.below⟩
structure SvS (B : Nat) (x : Ins) (vn vm : Value) (u : Int) (D : Nat) (d : Nd) (W : World) : Prop where
  box : ∃ p l, VBox W B x vn vm u p l
  nd : NdBox W D d 55
  lt : B < D
theorem SvS.drew {B : Nat} {x : Ins} {vn vm : Value} {u : Int} {D : Nat} {d : Nd} {W : World} (h : SvS B x vn vm u D d W) : SvS B x vn vm u D d W.drew := ⟨h.box, h.nd, h.lt⟩
theorem SvS.setP {B : Nat} {x : Ins} {vn vm : Value} {u : Int} {D : Nat} {d : Nd} {W : World} (h : SvS B x vn vm u D d W) (q : Int) : SvS B x vn vm u D d (W.setCell ⟨B, 9, none⟩ (.int .i64 q)) := by
  obtain ⟨⟨p, l, h1⟩, h2, h3⟩ := h
  exact ⟨⟨q, l, h1.setP q⟩, h2.grown (pgrownBy_setAt W B 9 _) (fun e => by have := Option.some.inj e; omega), h3⟩
theorem SvS.setL {B : Nat} {x : Ins} {vn vm : Value} {u : Int} {D : Nat} {d : Nd} {W : World} (h : SvS B x vn vm u D d W) (q : Int) : SvS B x vn vm u D d (W.setCell ⟨B, 10, none⟩ (.int .i64 q)) := by
  obtain ⟨⟨p, l, h1⟩, h2, h3⟩ := h
  exact ⟨⟨p, q, h1.setL q⟩, h2.grown (pgrownBy_setAt W B 10 _) (fun e => by have := Option.some.inj e; omega), h3⟩
theorem svS_S {B : Nat} {x : Ins} {vn vm : Value} {u : Int} {D : Nat} {d : Nd} {W : World} (h : SvS B x vn vm u D d W) : W.cell? ⟨B, 8, none⟩ = some (.int .i64 u) ∧ W.cell? ⟨D, 5, none⟩ = some (.int .i64 d.service) ∧ SvS B x vn vm u D d W := by
  obtain ⟨⟨p, l, h1⟩, h2, h3⟩ := h
  exact ⟨h1.c 8, h2.c 5, ⟨p, l, h1⟩, h2, h3⟩
set_option maxRecDepth 100000 in
theorem Try.serve_calls (x : Ins) (vn vm : Value) (B : Nat) (u l p cm : Int) (j : Nat) (w : World) (hx : HasIns w vn vm x) (hg : Fine x) (hj : j < x.nodes.length) (hu : unit x = u) (hc : 0 ≤ cm ∧ cm ≤ 4000000000000000000) (hB : VBox w B x vn vm u p l) :
    Calls Try.prog 40 #[.pointer (some ⟨B, 0, none⟩), .int .i64 (j : Int), .int .i64 cm] w fun e w' => e = .returned (.int .i64 (max cm (u * (at' x j).ready))) ∧ w.grownBy w' (some B) ∧ VBox w' B x vn vm u (j : Int) (max cm (u * (at' x j).ready) + u * (at' x j).service) := by
  obtain ⟨b, off, cn, rfl, hlc, hcm, hNo⟩ := hx.all hg.lo
  obtain ⟨am, cq, rfl, _⟩ := hx.matrix.dat
  have HD := nodesAt_nd hNo (i := j) hj
  obtain ⟨ur, w0, hur, p1⟩ := wrap_unit (x := x) (hg.ready j)
  obtain ⟨us, w1, hus, p3⟩ := wrap_unit (x := x) (hg.service j)
  rw [hu] at hur hus w0 w1
  rw [hur, hus]
  have HM : Hid (IntKind.i64.wrap (u * (at' x j).service) = us) := by rw [hus]; exact wrap_i64 (by omega) (by omega)
  generalize at' x j = d at *
  generalize x.nodes.length = L at *
  generalize x.matrix.length = M at *
  have hjL : (j : Int) < (L : Int) := by omega
  obtain ⟨c0, c1, c2, c3, c4, c5, c6, c7, c8, c9, c10⟩ := hB.cells
  obtain ⟨d0, d1, d2, d3, d4, d5, d6⟩ := HD
  have HA : Hid (IntKind.i64.wrap (max cm ur + us) = max cm ur + us) := wrap_i64 (by omega) (by omega)
  have HV0 : Hid (VBox (w.alloc (.cells #[Value.int .i64 d.x, .int .i64 d.y, .int .i64 d.demand, .int .i64 d.ready, .int .i64 d.due, .int .i64 d.service, .int .i64 d.mate] 55)) B x (.slice (some ⟨b, off, none⟩) L cn) (.slice am M cq) u p l) := hB.alloc _
  have hN0 := NdBox.new w d 55
  have HN0 := Lib.hid hN0
  have n3 := hN0.c 3
  have e8 := HV0.out.c 8
  unfold vehC at e8
  have HG0 := Lib.hid (World.grownBy_alloc w (.cells #[Value.int .i64 d.x, .int .i64 d.y, .int .i64 d.demand, .int .i64 d.ready, .int .i64 d.due, .int .i64 d.service, .int .i64 d.mate] 55) (some B))
  have HBL := Lib.hid hB.lt
  clear hx hg hNo hB hur hus hu w1 p1 p3
  go_enter Try.func40, Try.ntmps40
  go_wp2_with (fail)
  clear c0 c1 c2 c3 c4 c5 c6 c7 c8 c9 c10 d0 d1 d2 d3 d4 d5 d6 hN0
  generalize w.alloc (.cells #[Value.int .i64 d.x, .int .i64 d.y, .int .i64 d.demand, .int .i64 d.ready, .int .i64 d.due, .int .i64 d.service, .int .i64 d.mate] 55) = V at *
  generalize hD : w.heap.size = D at *
  go_quiet (fail)
  have HVS : Hid (VBox (V.drewN nq) B x (.slice (some ⟨b, off, none⟩) L cn) (.slice am M cq) u p l) := HV0.out
  have HSV : Hid (SvS B x (.slice (some ⟨b, off, none⟩) L cn) (.slice am M cq) u D d (V.drewN nq)) := ⟨⟨p, l, HV0.out⟩, HN0.out, HBL.out⟩
  have HGV : Hid (w.grownBy (V.drewN nq) (some B)) := ⟨HG0.out.os, HG0.out.tape, HG0.out.output, HG0.out.size, HG0.out.block⟩
  clear HV0 HN0 HG0 e8 n3
  generalize V.drewN nq = V2 at *
  go_wp2_with (fail)
  have e9 := HVS.out.c 9
  have e10 := HVS.out.c 10
  have f9 := HVS.out.frozen 9
  have f10 := HVS.out.frozen 10
  unfold vehC at e9 e10
  go_region_held3 (fun W => W.cell? ⟨B, 8, none⟩ = some (.int .i64 u) ∧ W.cell? ⟨D, 5, none⟩ = some (.int .i64 d.service) ∧ SvS B x (.slice (some ⟨b, off, none⟩) L cn) (.slice am M cq) u D d W)
    ((go_split_ands; (first | exact svS_S HSV.out.drew | exact svS_S (HSV.out.drew.setP _) | exact svS_S ((HSV.out.drew.setP _).setL _) | exact svS_S (by assumption))))
    (fail)
  rename_i hh
  clear hh e9 e10 f9 f10
  obtain ⟨V3, hV3⟩ : ∃ V3, V3 = ((V2.setCell ⟨B, 9, none⟩ (.int .i64 (j : Int))).setCell ⟨B, 10, none⟩ (.int .i64 (IntKind.i64.wrap (max cm ur + IntKind.i64.wrap (u * d.service))))).drew := ⟨_, rfl⟩
  have H1 : Hid (VBox V3 B x (.slice (some ⟨b, off, none⟩) L cn) (.slice am M cq) u (j : Int) (max cm ur + us)) := by
    rw [hV3, HM.out, HA.out]; exact ((HVS.out.setP _).setL _)
  have H2 : Hid (w.grownBy V3 (some B)) := by
    have h := HGV.out.trans ((pgrownBy_setAt V2 B 9 (.int .i64 (j : Int))).trans (pgrownBy_setAt (V2.setCell ⟨B, 9, none⟩ (.int .i64 (j : Int))) B 10 (.int .i64 (IntKind.i64.wrap (max cm ur + IntKind.i64.wrap (u * d.service))))))
    rw [hV3]; exact ⟨h.os, h.tape, h.output, h.size, h.block⟩
  rw [← hV3]
  clear hV3
  go_wp2
  go_ret
  exact ⟨rfl, H2.out, H1.out⟩
end Go.Proofs
