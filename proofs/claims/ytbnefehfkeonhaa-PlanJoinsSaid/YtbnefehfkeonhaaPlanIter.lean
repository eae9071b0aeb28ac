/- The iterators of layer 9: a route's own stops (slices.All), the routes, each of which is an iterator; no bound. -/
import Derived.Test.YtbnefehfkeonhaaPlanMem
import Derived.Test.YtbnefehfkeonhaaSeqX
namespace Go.Proofs
open Go.RowKit Go.Plans
attribute [local go_sem] Oper.semAt_some

theorem HasInts.still {W W' : World} {v : Value} {l : List Int} (h : HasInts W v l) (hb : Still W.heap.size W W') : HasInts W' v l := by
  rcases h with h | ⟨b, off, cap, h1, h2, h3, h4⟩
  · exact .inl h
  · exact .inr ⟨b, off, cap, h1, h2, h3, Nat.lt_of_lt_of_le h4.1 hb.size, fun i x hi => hb.cell h4.1 (h4.2 i x hi)⟩
theorem HasInts.at {W : World} {v : Value} {l : List Int} {i : Nat} {x : Int} (h : HasInts W v l) (hi : l[i]? = some x) : ∃ b off cap, v = .slice (some ⟨b, off, none⟩) l.length cap ∧ b < W.heap.size ∧ W.cell? ⟨b, off + i, none⟩ = some (.int .i64 x) := by
  rcases h with ⟨rfl, _⟩ | ⟨b, off, cap, h1, _, _, h4⟩
  · simp at hi
  · exact ⟨b, off, cap, h1, h4.1, h4.2 i x hi⟩
theorem HasRts.at {W : World} {v : Value} {rr : Rts} {i : Nat} {l : List Int} (h : HasRts W v rr) (hi : rr[i]? = some l) : ∃ b off cap u, v = .slice (some ⟨b, off, none⟩) rr.length cap ∧ b < W.heap.size ∧ W.cell? ⟨b, off + i, none⟩ = some u ∧ HasInts W u l := by
  rcases h with ⟨rfl, _⟩ | ⟨b, off, cap, h1, _, _, h4⟩
  · simp at hi
  · obtain ⟨u, h5, h6⟩ := h4.2 i l hi
    exact ⟨b, off, cap, u, h1, h4.1, h5, h6⟩
theorem HasRts.maxLen {W : World} {v : Value} {rr : Rts} (h : HasRts W v rr) : rr.length ≤ Go.maxLen := by
  rcases h with ⟨rfl, _⟩ | ⟨_, _, _, _, h2, h3, _⟩
  · simp
  · omega
theorem HasInts.maxLen {W : World} {v : Value} {l : List Int} (h : HasInts W v l) : l.length ≤ Go.maxLen := by
  rcases h with ⟨rfl, _⟩ | ⟨_, _, _, _, h2, h3, _⟩
  · simp
  · omega

/-- What slices.All yields. -/
def AllX (l : List Int) (k : Nat) (x : Array Value) (_ : World) : Prop := ∃ a, l[k]? = some a ∧ x = #[.int .i64 (k : Int), .int .i64 a]

set_option maxRecDepth 100000 in
set_option maxHeartbeats 1000000 in
theorem Try.All1_seq {T : Nat → TypeId → Bool} (w0 : World) (b : Nat) (v : Value) (l : List Int) (w : World) (hv : HasInts w0 v l) (hS : Still w0.heap.size w0 w) (hbox : Boxed w b 42 v) (hT : ∀ b t, b < w0.heap.size → T b t = true) :
    SeqX T Try.prog 32 #[.pointer (some ⟨b, 0, none⟩)] l.length (AllX l) w := by
  intro ll J Jx W hW hJ hJx hY h0
  have hbW : Boxed W b 42 v := (hW.block b hbox.lt).trans hbox
  have hSW : Still w0.heap.size w0 W := hS.trans ((Still.of_below hW).trans (Still.refl _ _) |> fun h => ⟨h.size, fun k c t z hk hc => h.cells k c t z (Nat.lt_of_lt_of_le hk hS.size) hc⟩)
  have hcW := hbW.cell
  obtain ⟨ao, cap, rfl⟩ := hv.len
  have hmx := hv.maxLen
  unfold Go.maxLen at hmx
  have HV := Lib.hid hv
  obtain ⟨n, hn⟩ : ∃ n, l.length = n := ⟨_, rfl⟩
  rw [hn] at HV hmx hcW hbW ⊢
  have HN := Lib.hid hn
  have HY := Lib.hid hY
  have HT := Lib.hid hT
  clear hv hn hY hT hbox hS hW hJ hJx
  refine (callsIn_wide (n := 0)).1 (callsIn_of_wp Try.func32 rfl trivial ?_ rfl)
  simp only [Try.ntmps32, List.size_toArray, List.length_cons, List.length_nil, Nat.reduceAdd, Nat.reduceSub, Array.replicate_succ, Array.replicate_zero, List.push_toArray, List.append_toArray, List.nil_append, List.cons_append]
  gi_wp2
  gi_loopw [7] (fun i wr => ∃ k : Nat, k ≤ n ∧ i = .int .i64 (k : Int) ∧ W.heap.size ≤ wr.heap.size ∧ Still w0.heap.size w0 wr ∧ J k wr) (fun i _ => n - (intOf i).toNat)
  case atStart => exact ⟨0, Nat.zero_le _, rfl, Nat.le_refl _, hSW, h0⟩
  case round =>
    obtain ⟨k, hk, rfl, hsz, hS, hj⟩ := hrel
    by_cases hlt : k < n
    · obtain ⟨x, hx⟩ : ∃ x, l[k]? = some x := ⟨_, List.getElem?_eq_getElem (by have := HN.out; omega)⟩
      obtain ⟨bb, off, cap', hv, hbw, hc⟩ := HV.out.at hx
      injection hv with h1 h2 h3
      subst h1
      have hc1 := hS.cell hbw hc
      obtain ⟨fn, tmps, assign, body, hy, hR⟩ := HY.out k _ wr (by have := HN.out; omega) hsz ⟨x, hx, rfl⟩ hj
      have hki : (k : Int) < (n : Int) := by omega
      have HS := Lib.hid hS
      have HZ := Lib.hid hsz
      clear h2 h3 hc hx hS hj hSW hsz hcW hbW h0
      gi_wp2
      refine ⟨rfl, hR.mono ?_⟩
      rintro e W3 ⟨hrf, (⟨rfl, hJ3⟩ | ⟨rfl, hJx3⟩)⟩
      · have HS3 := HS.out.rf hrf HT.out
        have hz3 : W.heap.size ≤ W3.heap.size := Nat.le_trans HZ.out hrf.size
        clear hrf
        gi_wp2
        go_roundw
        case rel => exact ⟨k + 1, by omega, by go_num, hz3, HS3, hJ3⟩
        case measure => simp [intOf]; omega
      · gi_wp2
        refine bodyPost_ret (results_none rfl _ _ _) rfl ?_
        exact ⟨⟨_, rfl⟩, .inr hJx3⟩
    · obtain rfl : k = n := by omega
      gi_wp2
      go_end0
      exact ⟨⟨_, rfl⟩, .inl hj⟩
#print axioms Try.All1_seq

theorem Try.All_calls (ao : Option Addr) (n cap : Nat) (w : World) :
    Calls Try.prog 31 #[.slice ao n cap] w fun e w' => e = .returned (.func (.func 32) #[] #[.pointer (some ⟨w.heap.size, 0, none⟩)]) ∧ w' = w.alloc (.cells #[.slice ao n cap] 42) := by
  go_enter Try.func31, Try.ntmps31
  go_wp2
  go_ret
  exact ⟨rfl, rfl⟩
theorem Try.routes_calls (v : Value) (w : World) :
    Calls Try.prog 29 #[planV v] w fun e w' => e = .returned (.func (.func 30) #[] #[.pointer (some ⟨w.heap.size, 0, none⟩)]) ∧ w' = w.alloc (.cells #[v] 24) := by
  unfold planV
  go_enter Try.func29, Try.ntmps29
  go_wp2
  go_ret
  exact ⟨rfl, rfl⟩
theorem Try.visits_calls (v : Value) (w : World) :
    Calls Try.prog 24 #[planV v] w fun e w' => e = .returned (.func (.func 28) #[] #[.pointer (some ⟨w.heap.size, 0, none⟩)]) ∧ w' = w.alloc (.cells #[v] 24) := by
  unfold planV
  go_enter Try.func24, Try.ntmps24
  go_wp2
  go_ret
  exact ⟨rfl, rfl⟩

/-- What routes yields: the number of a route, and an iterator of its own stops. -/
def RouteX (w0 : World) (M : Nat) (rr : Rts) (k : Nat) (x : Array Value) (W : World) : Prop :=
  ∃ (l : List Int) (b : Nat) (v : Value), rr[k]? = some l ∧ x = #[.int .i64 (k : Int), .func (.func 32) #[] #[.pointer (some ⟨b, 0, none⟩)]] ∧ M ≤ b ∧ Boxed W b 42 v ∧ HasInts w0 v l ∧ Still w0.heap.size w0 W

set_option maxRecDepth 100000 in
set_option maxHeartbeats 1000000 in
theorem Try.routes1_seq {T : Nat → TypeId → Bool} (w0 : World) (b : Nat) (v : Value) (rr : Rts) (w : World) (hv : HasRts w0 v rr) (hS : Still w0.heap.size w0 w) (hbox : Boxed w b 24 v) (hT : ∀ b t, b < w0.heap.size → T b t = true) :
    SeqX T Try.prog 30 #[.pointer (some ⟨b, 0, none⟩)] rr.length (RouteX w0 w.heap.size rr) w := by
  intro ll J Jx W hW hJ hJx hY h0
  have hbW : Boxed W b 24 v := (hW.block b hbox.lt).trans hbox
  have hSW : Still w0.heap.size w0 W := hS.trans ((Still.of_below hW).trans (Still.refl _ _) |> fun h => ⟨h.size, fun k c t z hk hc => h.cells k c t z (Nat.lt_of_lt_of_le hk hS.size) hc⟩)
  have hcW := hbW.cell
  obtain ⟨ao, cap, rfl⟩ := hv.len
  have hmx := hv.maxLen
  unfold Go.maxLen at hmx
  have HV := Lib.hid hv
  obtain ⟨n, hn⟩ : ∃ n, rr.length = n := ⟨_, rfl⟩
  rw [hn] at HV hmx hcW hbW ⊢
  have HN := Lib.hid hn
  have HY := Lib.hid hY
  have HT := Lib.hid hT
  have HJ := Lib.hid hJ
  have HWz := Lib.hid hW.size
  clear hv hn hY hT hbox hS hW hJ hJx
  refine (callsIn_wide (n := 0)).1 (callsIn_of_wp Try.func30 rfl trivial ?_ rfl)
  simp only [Try.ntmps30, List.size_toArray, List.length_cons, List.length_nil, Nat.reduceAdd, Nat.reduceSub, Array.replicate_succ, Array.replicate_zero, List.push_toArray, List.append_toArray, List.nil_append, List.cons_append]
  gi_wp2
  gi_loopw [8] (fun i wr => ∃ k : Nat, k ≤ n ∧ i = .int .i64 (k : Int) ∧ W.heap.size ≤ wr.heap.size ∧ Still w0.heap.size w0 wr ∧ J k wr) (fun i _ => n - (intOf i).toNat)
  case atStart => exact ⟨0, Nat.zero_le _, rfl, Nat.le_refl _, hSW, h0⟩
  case round =>
    obtain ⟨k, hk, rfl, hsz, hS, hj⟩ := hrel
    by_cases hlt : k < n
    · obtain ⟨x, hx⟩ : ∃ x, rr[k]? = some x := ⟨_, List.getElem?_eq_getElem (by have := HN.out; omega)⟩
      obtain ⟨bb, off, cap', u, hv, hbw, hc, hu⟩ := HV.out.at hx
      injection hv with h1 h2 h3
      subst h1
      obtain ⟨ao2, cap2, rfl⟩ := hu.len
      obtain ⟨u, hue⟩ : ∃ u, u = Value.slice ao2 x.length cap2 := ⟨_, rfl⟩
      rw [← hue] at hc hu
      have HA := Lib.hid (Try.All_calls ao2 x.length cap2 wr)
      rw [← hue] at HA
      have hc1 := hS.cell hbw hc
      clear hue
      obtain ⟨fn, tmps, assign, body, hy, hR⟩ := HY.out k _ (wr.alloc (.cells #[u] 42)) (by have := HN.out; omega) (by simp; omega) ⟨x, wr.heap.size, u, hx, rfl, Nat.le_trans HWz.out hsz, Boxed.new _ _ _, hu, hS.alloc _⟩ (HJ.out.alloc _ hj)
      have hki : (k : Int) < (n : Int) := by omega
      have HS := Lib.hid (hS.alloc (.cells #[u] 42))
      have HZ : Hid (W.heap.size ≤ (wr.alloc (.cells #[u] 42)).heap.size) := by unfold Hid; simp; omega
      clear h2 h3 hc hx hS hj hSW hsz hcW hbW h0
      gi_wp2_with (refine ⟨trivial, rfl, ?_⟩; gi_at_call 31; refine (callsIn_wide.2 HA.out).mono ?_; rintro e w' ⟨rfl, rfl⟩)
      refine ⟨rfl, hR.mono ?_⟩
      rintro e W3 ⟨hrf, (⟨rfl, hJ3⟩ | ⟨rfl, hJx3⟩)⟩
      · have HS3 := HS.out.rf hrf HT.out
        have hz3 : W.heap.size ≤ W3.heap.size := Nat.le_trans HZ.out hrf.size
        clear hrf
        gi_wp2
        go_roundw
        case rel => exact ⟨k + 1, by omega, by go_num, hz3, HS3, hJ3⟩
        case measure => simp [intOf]; omega
      · gi_wp2
        refine bodyPost_ret (results_none rfl _ _ _) rfl ?_
        exact ⟨⟨_, rfl⟩, .inr hJx3⟩
    · obtain rfl : k = n := by omega
      gi_wp2
      go_end0
      exact ⟨⟨_, rfl⟩, .inl hj⟩
#print axioms Try.routes1_seq
end Go.Proofs
