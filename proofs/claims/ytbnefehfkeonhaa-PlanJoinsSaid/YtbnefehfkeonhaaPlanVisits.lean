/- The iterator plan.visits of layer 9: all stops of a plan, with their routes and places; no bound. -/
import Derived.Test.YtbnefehfkeonhaaPlanIter
namespace Go.Proofs
open Go.RowKit Go.Plans
attribute [local go_sem] Oper.semAt_some

/-- What visits yields: the q-th stop of all, its route, and its place there. -/
def VisitX (rr : Rts) (q : Nat) (x : Array Value) (_ : World) : Prop :=
  ∃ (i j : Nat) (l : List Int) (s : Int), rr[i]? = some l ∧ l[j]? = some s ∧ q = many (rr.take i) + j ∧ x = #[.agg #[.int .i64 (i : Int), .int .i64 (j : Int), .int .i64 s]]

set_option maxRecDepth 100000 in
set_option maxHeartbeats 1000000 in
theorem Try.visits1_seq {T : Nat → TypeId → Bool} (w0 : World) (b : Nat) (v : Value) (rr : Rts) (w : World) (hv : HasRts w0 v rr) (hS : Still w0.heap.size w0 w) (hbox : Boxed w b 24 v) (hT : ∀ b t, b < w0.heap.size ∨ w.heap.size ≤ b → T b t = true) :
    SeqX T Try.prog 28 #[.pointer (some ⟨b, 0, none⟩)] (many rr) (VisitX rr) w := by
  intro ll J Jx W hW hJ hJx hY h0
  have hbW : Boxed W b 24 v := (hW.block b hbox.lt).trans hbox
  have hSW : Still w0.heap.size w0 W := hS.trans ((Still.of_below hW).trans (Still.refl _ _) |> fun h => ⟨h.size, fun k c t z hk hc => h.cells k c t z (Nat.lt_of_lt_of_le hk hS.size) hc⟩)
  have hcW := hbW.cell
  have hwW := hW.size
  have hBW : b < W.heap.size := hbW.lt
  obtain ⟨ao, cap, rfl⟩ := hv.len
  have HV := Lib.hid hv
  obtain ⟨n, hn⟩ : ∃ n, rr.length = n := ⟨_, rfl⟩
  rw [hn] at HV hcW hbW
  have HN := Lib.hid hn
  have HY := Lib.hid hY
  have HT := Lib.hid hT
  have HRc := Lib.hid (fun w => Try.routes_calls (.slice ao n cap) w)
  unfold planV at HRc
  clear hv hn hY hT hbox hS hW
  refine (callsIn_wide (n := 0)).1 (callsIn_of_wp_marks Try.func28 rfl trivial ?_ rfl)
  simp only [Try.ntmps28, List.size_toArray, List.length_cons, List.length_nil, Nat.reduceAdd, Nat.reduceSub, Array.replicate_succ, Array.replicate_zero, List.push_toArray, List.append_toArray, List.nil_append, List.cons_append]
  gi_wp2_with (refine ⟨trivial, rfl, ?_⟩; gi_at_call 29; refine (callsIn_wide.2 (HRc.out _)).mono ?_; rintro e w' ⟨rfl, rfl⟩)
  obtain ⟨V, hV⟩ : ∃ V, V = (W.alloc (Obj.cells #[Value.func (Fn.yield ll) #[] #[]] 56)).alloc (Obj.cells #[Value.slice ao n cap] 24) := ⟨_, rfl⟩
  have hVs : V.heap.size = W.heap.size + 1 + 1 := by rw [hV]; simp
  have b0 : Boxed V W.heap.size 56 (.func (.yield ll) #[] #[]) := by rw [hV]; exact (Boxed.new W 56 _).alloc _
  have b1 : Boxed V (W.heap.size + 1) 24 (.slice ao n cap) := by rw [hV]; exact Boxed.at 24 _ (by simp)
  have j0 : J 0 V := by rw [hV]; exact hJ.alloc _ (hJ.alloc _ h0)
  have sV : Still w0.heap.size w0 V := by rw [hV]; exact (hSW.alloc _).alloc _
  rw [← hV]
  clear hV
  have hup : ∀ {X : World} {row : Option Nat}, (∀ r, row = some r → V.heap.size ≤ r ∧ ∃ o : Obj, X.heap[r]? = some o ∧ o.isCells = false) → (∀ r, row = some r → W.heap.size ≤ r ∧ ∃ o : Obj, X.heap[r]? = some o ∧ o.isCells = false) :=
    fun hr r e => ⟨by have := (hr r e).1; omega, (hr r e).2⟩
  have HJ := Lib.hid hJ
  have HJx := Lib.hid hJx
  clear hJ hJx h0 hSW hcW hbW
  refine range_seqX (gf := 30) (lb := #[.pointer (some ⟨W.heap.size + 1, 0, none⟩)]) rfl (enters_of Try.func30 (by kernel_rfl) rfl)
    (Try.routes1_seq w0 _ (.slice ao n cap) rr V HV.out sV b1 (fun b t h => HT.out b t (.inl h))) (Below.refl _ _) (fun k x X h => by obtain ⟨l, b, u, _, rfl, _⟩ := h; rfl)
    (fun k X => Boxed X W.heap.size 56 (.func (.yield ll) #[] #[]) ∧ Still w0.heap.size w0 X ∧ V.heap.size ≤ X.heap.size ∧ J (many (rr.take k)) X)
    (fun c X => c = .ret ∧ Jx X)
    (fun k X Y row h hg hr => ⟨h.1.own hg hr, h.2.1.own hg hr, Nat.le_trans h.2.2.1 hg.size, HJ.out _ X Y row h.2.2.2 hg (hup hr)⟩)
    (fun c _ X Y row h hg hr => ⟨h.1, HJx.out () X Y row h.2 hg (hup hr)⟩)
    ⟨b0, sV, Nat.le_refl _, by simpa [many] using j0⟩
    (fun k a' X => ∃ (l : List Int) (b' : Nat) (u : Value) (rb : Nat), rr[k]? = some l ∧ V.heap.size ≤ b' ∧ Boxed X b' 42 u ∧ HasInts w0 u l ∧ V.heap.size ≤ rb ∧ Boxed X rb 3 (.int .i64 (k : Int)) ∧
      a' = { tmps := #[.func (.yield ll) #[] #[], .pointer (some ⟨b, 0, none⟩), .pointer (some ⟨W.heap.size, 0, none⟩), .pointer (some ⟨rb, 0, none⟩), .func (.func 32) #[] #[.pointer (some ⟨b', 0, none⟩)], undef, undef, .agg #[.slice ao n cap], .func (.func 30) #[] #[.pointer (some ⟨W.heap.size + 1, 0, none⟩)], .int .i64 (k : Int), .func (.func 32) #[] #[.pointer (some ⟨b', 0, none⟩)], undef, undef, undef, undef, undef, undef, undef, undef, undef, undef], defers := [] })
    (fun k a' _ X Y row h hg hr => by
      obtain ⟨l, b', u, rb, h1, h2, h3, h4, h5, h6, h7⟩ := h
      exact ⟨l, b', u, rb, h1, h2, h3.own hg hr, h4, h5, h6.own hg hr, h7⟩) ?assign ?body ?done ?stop
  case assign =>
    intro l k x X K hkN hVX hx hi hK
    obtain ⟨r, b', u, hr, rfl, hMb, hbu, hru, hst⟩ := hx
    obtain ⟨hy0, hs0, hz0, hj0⟩ := hi
    have HK := Lib.hid hK
    have HR := Lib.hid hru
    have HI := Lib.hid hr
    clear hK hru hr
    gi_wp2
    exact HK.out _ _ ((RF.refl X).alloc _) ⟨hy0.alloc _, hs0.alloc _, by simp; omega, HJ.out.alloc _ hj0⟩ ⟨r, b', u, X.heap.size, HI.out, hMb, hbu.alloc _, HR.out, hVX, Boxed.new _ _ _, rfl⟩
  case body =>
    rintro l0 k a' X hkN hVl hlr ⟨hy0, hs0, hz0, hj0⟩ ⟨r, b', u, rb, hr, hMb, hbu, hru, hrb, hbr, rfl⟩
    have HI := Lib.hid hr
    have hrf0 : RF T V.heap.size X X := RF.refl X
    have ht1 := HT.out W.heap.size 56 (.inr hwW)
    have ht2 := HT.out rb 3 (.inr (by omega))
    clear b0 b1 j0 sV hr
    have hWX : W.heap.size ≤ X.heap.size := by omega
    have hup2 : ∀ {Y : World} {row : Option Nat}, (∀ r, row = some r → X.heap.size ≤ r ∧ ∃ o : Obj, Y.heap[r]? = some o ∧ o.isCells = false) → (∀ r, row = some r → W.heap.size ≤ r ∧ ∃ o : Obj, Y.heap[r]? = some o ∧ o.isCells = false) :=
      fun hr r e => ⟨by have := (hr r e).1; omega, (hr r e).2⟩
    gi_wp2
    refine range_seqX_in hlr (gf := 32) (lb := #[.pointer (some ⟨b', 0, none⟩)]) rfl (enters_of Try.func32 (by kernel_rfl) rfl)
      (Try.All1_seq w0 b' u r X hru hs0 hbu (fun b t h => HT.out b t (.inl h))) (Below.refl _ _) (fun k x X h => by obtain ⟨a, _, rfl⟩ := h; rfl)
      (fun j Y => Boxed Y W.heap.size 56 (.func (.yield ll) #[] #[]) ∧ Boxed Y rb 3 (.int .i64 (k : Int)) ∧ Still w0.heap.size w0 Y ∧ RF T V.heap.size X Y ∧ J (many (rr.take k) + j) Y)
      (fun c Y => c = .ret ∧ RF T V.heap.size X Y ∧ Jx Y)
      (fun j Y Z row h hg hrw => ⟨h.1.own hg hrw, h.2.1.own hg hrw, h.2.2.1.own hg hrw, RF.ownF (Nat.le_refl _) () Y Z row h.2.2.2.1 hg hrw, HJ.out _ Y Z row h.2.2.2.2 hg (hup2 hrw)⟩)
      (fun c _ Y Z row h hg hrw => ⟨h.1, RF.ownF (Nat.le_refl _) () Y Z row h.2.1 hg hrw, HJx.out () Y Z row h.2.2 hg (hup2 hrw)⟩)
      ⟨hy0, hbr, hs0, hrf0, by simpa using hj0⟩
      (fun j a' _ => ∃ s, r[j]? = some s ∧ a' = { tmps := #[.func (.yield ll) #[] #[], .pointer (some ⟨b, 0, none⟩), .pointer (some ⟨W.heap.size, 0, none⟩), .pointer (some ⟨rb, 0, none⟩), .func (.func 32) #[] #[.pointer (some ⟨b', 0, none⟩)], .int .i64 (j : Int), .int .i64 s, .agg #[.slice ao n cap], .func (.func 30) #[] #[.pointer (some ⟨W.heap.size + 1, 0, none⟩)], .int .i64 (k : Int), .func (.func 32) #[] #[.pointer (some ⟨b', 0, none⟩)], .func (.func 32) #[] #[.pointer (some ⟨b', 0, none⟩)], .int .i64 (j : Int), .int .i64 s, undef, undef, undef, undef, undef, undef, undef], defers := [] })
      (fun _ _ _ _ _ _ h _ _ => h) ?ias ?ibo ?ido ?ist
    case ias =>
      intro l j x Y K hjN hXY hx hi hK
      obtain ⟨s, hs, rfl⟩ := hx
      have HK := Lib.hid hK
      have HS := Lib.hid hs
      clear hK hs
      gi_wp2
      exact HK.out _ _ (RF.refl _) hi ⟨s, HS.out, rfl⟩
    case ibo =>
      rintro l1 j a' Y hjN hXl hlr1 ⟨hy1, hb1, hs1, hrf1, hj1⟩ ⟨s, hs, rfl⟩
      obtain ⟨fn, tmps, assign, body, hy, hR⟩ := HY.out (many (rr.take k) + j) _ Y (by
        have h1 := many_take HI.out
        have h2 := many_take_le rr (k + 1)
        omega) (by have := hrf1.size; omega) ⟨k, j, r, s, HI.out, hs, rfl, rfl⟩ hj1
      have hc0 := hy1.cell
      have hc1 := hb1.cell
      have HR := Lib.hid hR
      clear hR hs hj1 hlr hlr1 hy0 hj0 hbu hru hbr
      gi_wp2
      refine ⟨rfl, (HR.out.mono ?_).into l1⟩
      rintro e Y3 ⟨hrf, (⟨rfl, hJ3⟩ | ⟨rfl, hJx3⟩)⟩
      · gi_wp2
        exact ⟨hrf.mono hWX, hrf.boxed hy1 ht1, hrf.boxed hb1 ht2, hs1.rf hrf (fun b t h => HT.out b t (.inl h)), hrf1.trans (hrf.mono (by omega)), hJ3⟩
      · gi_wp2
        exact ⟨hrf.mono hWX, rfl, hrf1.trans (hrf.mono (by omega)), hJx3⟩
    case ido =>
      rintro Y ⟨hy1, hb1, hs1, hrf1, hj1⟩
      rw [← many_take HI.out] at hj1
      exact ⟨hrf1, hy1, hs1, Nat.le_trans hz0 hrf1.size, hj1⟩
    case ist =>
      rintro c Y ⟨rfl, hrf1, hjx⟩
      gi_wp2
      exact ⟨hrf1, rfl, hjx⟩
  case done =>
    rintro D X hD ⟨hy0, hs0, hz0, hj0⟩ hK
    rw [List.take_length] at hj0
    gi_wp2
    refine ⟨by simp, .inl ⟨_, _, rfl, run_takeDeferred hK, ?_⟩⟩
    refine ⟨_, results_none rfl _ _ _, ⟨_, rfl⟩, .inl ?_⟩
    exact HJ.out.putObj _ hj0 (by omega) hK rfl
  case stop =>
    rintro D c X hD ⟨rfl, hjx⟩ hK
    gi_wp2
    refine ⟨by simp, .inl ⟨_, _, rfl, run_takeDeferred hK, ?_⟩⟩
    refine ⟨_, results_none rfl _ _ _, ⟨_, rfl⟩, .inr ?_⟩
    exact HJx.out.putObj (s := ()) _ hjx (by omega) hK rfl
#print axioms Try.visits1_seq
end Go.Proofs
