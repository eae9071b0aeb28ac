/- The document's own Norm of layer 9. Conditions: at most two million routes; routes of at most two million stops. -/
import Derived.Test.YthgagmndefaniaaG19
import Derived.Deep.RegionWith
namespace Go
open Go.RowKit
/-- append onto a row of the call's own (or onto nothing), as a step of a region that draws. -/
theorem step_append_anyP {P : Program} {w : World} {ops : Array Oper} {o : Oper} {a : Act} {K : Act → World → Prop} {Q : Exit → Act → World → Prop} {E : Prop} (hgd : o.guard = none) (s x : Operand) (t : TypeId)
    (ho : o.op = .call { callee := .builtin .append, args := #[s, x], argTypes := #[t, t] })
    (base : Nat) (e : TypeId) (i : TypeInfo) (z : Value) (size bytes : Nat) (ht : P.underlying t = some (.slice e)) (hi : P.info? e = some i) (hz : i.zero = some z)
    (hsize : i.size = size) (hby : i.bytes = bytes) (hzs : z.cells.size = size) (hsz : 0 < size)
    (v : Value) (n : Nat) (xs : List Value) (hs : a.eval s = v) (hown : w.ownsRow base e size v n xs)
    (ad : Addr) (m c : Nat) (news : List Value) (hx : a.eval x = .slice (some ad) m c) (hl : news.length = m * size) (hnews : ∀ j u, news[j]? = some u → w.cell? (ad.add j) = some u) (h1 : ∀ u ∈ news, u.oneCell' = true)
    (h63 : n + m ≤ maxLen) (hbytes : (n + m) * bytes ≤ 140737488355328) (hbase : base ≤ w.heap.size)
    (h : ∀ v' w', w'.ownsRow base e size v' (n + m) (xs ++ news) → w.grownBy w' v.ownBlock → K (a.put o.dst v') w') :
    if Region.wanted o (yielded ops a.tmps) = true then Oper.wp P o a w K Q else E := by
  have hw : Region.wanted o (yielded ops a.tmps) = true := by simp [Region.wanted, hgd]
  rw [if_pos hw]
  exact wp_append_own w s x t ho base e i z size bytes ht hi hz hsize hby hzs hsz v n xs hs hown ad m c news hx hl hnews h1 h63 hbytes hbase fun v' w' h2 h3 _ => h v' w' h2 h3
end Go
namespace Go.Proofs
open Go.RowKit Go.Plans
attribute [local go_sem] Oper.semAt_some
theorem powns_drew {W : World} {base : Nat} {e : TypeId} {size : Nat} {v : Value} {c : Nat} {xs : List Value} (h : W.ownsRow base e size v c xs) : W.drew.ownsRow base e size v c xs := h
/-- A route's copy, put behind the others. -/
theorem norm_put {B : Nat} {wr w1 w3 : World} {v : Value} {us : List Value} {mm : Rts} {l : List Int} {g c : Nat} {o : Obj} (hs : B ≤ wr.heap.size) (HO : wr.ownsRow B 23 1 v mm.length us) (HU : ValsR wr us mm) (hb1 : Below wr.heap.size wr w1)
    (hr1 : RowAt w1 (.slice (some ⟨g, 0, none⟩) l.length c) l) (hg1 : wr.heap.size ≤ g) (hg3 : (w1.alloc o).grownBy w3 v.ownBlock) : Below B wr w3 ∧ ValsR w3 (us ++ [.slice (some ⟨g, 0, none⟩) l.length c]) (mm ++ [l]) := by
  have O1 := powns_later HO hb1
  have h4 : Below B w1 w3 := lgrown_below (Below.refl _ w1) (Nat.le_trans hs hb1.size) O1 hg3
  refine ⟨(hb1.mono hs).trans h4, ?_⟩
  have hva := ValsR.next (HU.next hb1) ((Below.refl _ w1).alloc (Nat.le_refl _) o)
  have hvb := ValsR.grown hva (O1.alloc _) hg3
  have hra := RowAt.next hr1 ((Below.refl _ w1).alloc (Nat.le_refl _) o)
  refine hvb.snoc (hra.grown hg3 (fun e => ?_))
  have h1 := (World.ownsRow.lt HO g e.symm).2
  omega
theorem ints_news {W : World} {b off : Nat} {l : List Int} (h : IntAt W b off l) {W' : World} (hb : Below W.heap.size W W') : ∀ (j : Nat) (u : Value), (l.map intV)[j]? = some u → W'.cell? ((⟨b, off, none⟩ : Addr).add j) = some u := by
  intro j u hj
  rw [List.getElem?_map, Option.map_eq_some_iff] at hj
  obtain ⟨x, hx, rfl⟩ := hj
  rw [Addr.add_lit]
  exact (hb.cell (p := ⟨b, off + j, none⟩) h.1).trans (h.2 j x hx)
theorem powns_slice {W : World} {base : Nat} {e : TypeId} {size n : Nat} {v : Value} {xs : List Value} (h : W.ownsRow base e size v n xs) : ∃ a c, v = .slice a n c := by
  rcases h.2 with ⟨rfl, rfl⟩ | ⟨g, cap, cur, rfl, _⟩
  · exact ⟨none, 0, rfl⟩
  · exact ⟨_, cap, rfl⟩
/-- A row of slices, its length told by what it reads as, behind a store into a box of a call's own. -/
theorem norm_box {B b : Nat} {W : World} {v x : Value} {us : List Value} {mm : Rts} {a : Option Addr} {q c : Nat} (hb : b < B) (HO : W.ownsRow B 23 1 v mm.length us) (HU : ValsR W us mm) (hc : W.cell? ⟨b, 0, none⟩ = some (.slice a q c)) :
    (W.setCell ⟨b, 0, none⟩ x).ownsRow B 23 1 v mm.length us ∧ ValsR (W.setCell ⟨b, 0, none⟩ x) us mm :=
  ⟨HO.kept (grownBy_setCell' W b _) (.inr fun e => by have := (World.ownsRow.lt HO _ e).1; omega), HU.box hc _⟩
theorem powns_some {W : World} {base : Nat} {e : TypeId} {size n : Nat} {v : Value} {xs : List Value} (h : W.ownsRow base e size v (n + 1) xs) : ∃ g cap, v = .slice (some ⟨g, 0, none⟩) (n + 1) cap := by
  rcases h.2 with ⟨_, h0⟩ | ⟨g, cap, cur, rfl, _⟩
  · omega
  · exact ⟨g, cap, rfl⟩
set_option maxRecDepth 100000 in
set_option maxHeartbeats 4000000 in
theorem Try.RPlanNorm_calls (v : Value) (rr : Rts) (w : World) (hl : rr.length ≤ 2000000) (hls : ∀ l ∈ rr, l.length ≤ 2000000) (hv : HasRts w v rr) :
    Calls Try.prog 35 #[planV v] w fun e w' => ∃ u, e = .returned (planV u) ∧ HasRts w' u (normR rr) ∧ Below w.heap.size w w' := by
  have HV := Lib.hid hv
  obtain ⟨ao, cap, rfl⟩ := hv.len
  obtain ⟨n, hn⟩ : ∃ n, rr.length = n := ⟨_, rfl⟩
  rw [hn] at hl HV ⊢
  have HM := Lib.hid hls
  have HN := Lib.hid hn
  obtain ⟨i0, hi, hz0, hz1, hz2⟩ := info_parts Try.pinfo23
  have HI := Lib.hid hi
  obtain ⟨i3, hi3, hy0, hy1, hy2⟩ := info_parts Try.info3
  have HI3 := Lib.hid hi3
  clear hi hi3
  have hb0 := (((Below.refl _ w).alloc (Nat.le_refl _) (.cells #[.slice ao n cap] 42)).alloc (by simp) (.cells #[.slice none 0 0] 42)).alloc (by simp; omega) (.cells #[.slice none 0 0] 42)
  have B0 : Boxed (((w.alloc (.cells #[.slice ao n cap] 42)).alloc (.cells #[.slice none 0 0] 42)).alloc (.cells #[.slice none 0 0] 42)) w.heap.size 42 (.slice ao n cap) := ((Boxed.new _ _ _).alloc _).alloc _
  have B1 : Boxed (((w.alloc (.cells #[.slice ao n cap] 42)).alloc (.cells #[.slice none 0 0] 42)).alloc (.cells #[.slice none 0 0] 42)) (w.heap.size + 1) 42 (.slice none 0 0) := (Boxed.at 42 _ (by simp)).alloc _
  have B2 : Boxed (((w.alloc (.cells #[.slice ao n cap] 42)).alloc (.cells #[.slice none 0 0] 42)).alloc (.cells #[.slice none 0 0] 42)) (w.heap.size + 2) 42 (.slice none 0 0) := Boxed.at 42 _ (by simp)
  have O0 : (((w.alloc (.cells #[.slice ao n cap] 42)).alloc (.cells #[.slice none 0 0] 42)).alloc (.cells #[.slice none 0 0] 42)).ownsRow (w.heap.size + 3) 23 1 (.slice none 0 0) 0 [] := ⟨by simp, .inl ⟨rfl, rfl⟩⟩
  clear hv hn hls
  unfold planV
  go_enter Try.func35, Try.ntmps35
  go_wp2
  go_loopw [4] (fun i wr => ∃ (k : Nat) (v : Value) (us : List Value), k ≤ n ∧ i = .int .i64 (k : Int) ∧ wr.ownsRow (w.heap.size + 3) 23 1 v (normR (rr.take k)).length us ∧ ValsR wr us (normR (rr.take k)) ∧ Boxed wr w.heap.size 42 (.slice ao n cap) ∧ Boxed wr (w.heap.size + 1) 42 (.slice none 0 0) ∧ Boxed wr (w.heap.size + 2) 42 v ∧ Below w.heap.size w wr) (fun i _ => n - (intOf i).toNat)
  case atStart => exact ⟨0, _, [], Nat.zero_le _, rfl, by simpa [normR] using O0, by simpa [normR] using ValsR.nil _, B0, B1, B2, hb0⟩
  case round =>
    obtain ⟨k, v, us, hk, rfl, hO, hU, hB0, hB1, hB2, hW⟩ := hrel
    have hsz : w.heap.size + 3 ≤ wr.heap.size := by have := hB2.lt; omega
    have HO := Lib.hid hO
    have HU := Lib.hid hU
    have HB0 := Lib.hid hB0
    have HB1 := Lib.hid hB1
    have HB2 := Lib.hid hB2
    have HW := Lib.hid hW
    have c0 := hB0.cell
    clear B0 B1 B2 hb0 O0 hO hU hB0 hB1 hB2 hW
    by_cases hlt : k < n
    · obtain ⟨l, hp⟩ : ∃ l, rr[k]? = some l := ⟨_, List.getElem?_eq_getElem (by have := HN.out; omega)⟩
      have hll := HM.out l (List.mem_of_getElem? hp)
      have htk : rr.take (k + 1) = rr.take k ++ [l] := by rw [List.take_add_one, hp]; rfl
      obtain ⟨b, off, cp, x, hv, hbB, hbw, hc, hx⟩ := HV.out.get hp (Nat.le_refl _) HW.out
      injection hv with h1 h2 h3
      subst h1
      have hki : (k : Int) < (n : Int) := by omega
      by_cases hz : 0 < l.length
      · have hnr : Hid (normR (rr.take (k + 1)) = normR (rr.take k) ++ [l]) := by unfold Hid; rw [htk, normR_cons_keep hz]
        have hlen : (normR (rr.take k)).length ≤ 2000000 := by
          have h := normR_len (rr.take k)
          rw [List.length_take] at h
          omega
        rcases hx with ⟨rfl, _⟩ | ⟨xb, xo, cx, rfl, hx1, hx2, hx3⟩
        · simp at hz
        have hzi : (0 : Int) < (l.length : Int) := by omega
        obtain ⟨M, hMe⟩ : ∃ M, (normR (rr.take k)).length = M := ⟨_, rfl⟩
        rw [hMe] at HO hlen
        have HME := Lib.hid hMe
        have hml : M + 1 ≤ maxLen := by unfold maxLen; omega
        have hml2 : (M + 1) * 24 ≤ 140737488355328 := by omega
        have hml3 : 0 + l.length ≤ maxLen := by unfold maxLen; omega
        have hml4 : (0 + l.length) * 8 ≤ 140737488355328 := by omega
        have HX := Lib.hid hx3
        have HZ := Lib.hid hz
        have c2 := HB2.out.cell
        have f2 := HB2.out.frozen
        clear hp htk hx3 h2 h3 hMe hx1 hx2
        have n0 : w.heap.size < wr.heap.size := by omega
        have n2 : w.heap.size + 1 + 1 < wr.heap.size := by omega
        have n3 : w.heap.size + 2 < wr.heap.size := by omega
        go_wp2
        go_region_law (first
          | (refine step_append_anyP rfl (.tmp 22) (.tmp 27) 23 rfl wr.heap.size 3 i3 (.int .i64 0) 1 8 Try.underlying23 HI3.out hy0 hy1 hy2 rfl (by decide) (.slice (some ⟨wr.heap.size, 0, none⟩) 0 0) 0 [] rfl (by first | exact powns_drew (owns_empty1 wr 3) | exact owns_empty1 wr.drew 3) ⟨xb, xo, none⟩ l.length cx (l.map intV) rfl (by simp) (ints_news HX.out (by first | exact ((Below.refl _ wr).alloc (Nat.le_refl _) _).drew | exact (Below.refl _ wr).drew.alloc (Nat.le_refl _) _)) (fun u hu => by obtain ⟨y, _, rfl⟩ := List.mem_map.1 hu; rfl) hml3 hml4 (by simp) ?_; intro v1 w1 hown1 hgrow1; have hb1 : Below wr.heap.size wr w1 := (show Below wr.heap.size wr _ by first | exact ((Below.refl _ wr).alloc (Nat.le_refl _) _).drew | exact (Below.refl _ wr).drew.alloc (Nat.le_refl _) _).grown hgrow1 (by simp) (fun k e => by cases e; exact Nat.le_refl _); have hr1 : RowAt w1 v1 l := rowAt_of_owns (base := wr.heap.size) (e := 3) (by simpa using hown1) HZ.out; have hq1 := fun b hb => (World.ownsRow.lt hown1 b hb).1; obtain ⟨g1, cg, rfl, r1, r2, r3, r4⟩ := hr1; have hq2 := hq1 g1 rfl; have c21 : w1.cell? ⟨w.heap.size + 2, 0, none⟩ = some v := (hb1.cell (p := ⟨w.heap.size + 2, 0, none⟩) (by show w.heap.size + 2 < _; omega)).trans c2; have hs1 := hb1.size; have m0 : w.heap.size < w1.heap.size := (by omega); have m2 : w.heap.size + 1 + 1 < w1.heap.size := (by omega); have m3 : w.heap.size + 2 < w1.heap.size := (by omega); clear hown1 hgrow1 hq1)
          | (refine step_append_anyP rfl (.tmp 21) (.tmp 29) 26 rfl (w.heap.size + 3) 23 i0 (.slice none 0 0) 1 24 Try.underlying26 HI.out hz0 hz1 hz2 rfl (by decide) v M us rfl ((powns_later HO.out hb1).alloc _) ⟨w1.heap.size, 0, none⟩ 1 1 [.slice (some ⟨g1, 0, none⟩) l.length cg] rfl rfl (cells_one w1 _ _) (by simp [Value.oneCell']) hml hml2 (by simp; omega) ?_; intro v3 w3 hown3 hgrow3; obtain ⟨g3, cp3, rfl⟩ := powns_some hown3; have hput := norm_put (B := w.heap.size + 3) hsz (by rw [HME.out]; exact HO.out) HU.out hb1 ⟨g1, cg, rfl, r1, r2, r3, r4⟩ hq2 hgrow3; have hbx : Boxed w3 (w.heap.size + 2) 42 v := HB2.out.below hput.1 (by omega); have c23 := hbx.cell; have f23 := hbx.frozen; have c24 : w3.cell? ⟨w.heap.size + 1 + 1, 0, none⟩ = some v := c23; have f24 : w3.frozen? ⟨w.heap.size + 1 + 1, 0, none⟩ = false := f23; have HP3 := Lib.hid hput; have HO3 := Lib.hid hown3; clear hgrow3 hput hown3 r1 r2 r3 r4))
        all_goals
          obtain ⟨va, vc, rfl⟩ := powns_slice HO.out
          have hown3 := HO3.out
          have hbw := HP3.out.1
          have hva := HP3.out.2
          rw [show M + 1 = (normR (rr.take (k + 1))).length by rw [hnr.out, List.length_append, HME.out]; rfl] at hown3
          rw [← hnr.out] at hva
          have hfin := norm_box (x := .slice (some ⟨g3, 0, none⟩) (M + 1) cp3) (show w.heap.size + 2 < w.heap.size + 3 by omega) hown3 hva hbx.cell
          have hnl : (normR (rr.take (k + 1))).length = M + 1 := by rw [hnr.out, List.length_append, HME.out]; rfl
          rw [hnl] at hfin
          have HF := Lib.hid hfin
          have d0 := Lib.hid ((HB0.out.below hbw (by omega)).other (B' := w.heap.size + 2) (by omega) (.slice (some ⟨g3, 0, none⟩) (M + 1) cp3))
          have d1 := Lib.hid ((HB1.out.below hbw (by omega)).other (B' := w.heap.size + 2) (by omega) (.slice (some ⟨g3, 0, none⟩) (M + 1) cp3))
          have d2 := Lib.hid (hbx.set (.slice (some ⟨g3, 0, none⟩) (M + 1) cp3))
          have dW := Lib.hid ((HW.out.trans (hbw.mono (by omega))).setCell (p := ⟨w.heap.size + 2, 0, none⟩) (by simp) (.slice (some ⟨g3, 0, none⟩) (M + 1) cp3))
          have HNL := Lib.hid hnl
          clear hown3 hbw hva hfin hbx c23 c24 f23 f24 hnl
          go_wp2
          exact ⟨⟨k + 1, _, _, by omega, by go_num, by rw [HNL.out]; exact HF.out.1, HF.out.2, d0.out, d1.out, d2.out, dW.out⟩, by simp [intOf]; omega⟩
      · have hl0 : l = [] := List.eq_nil_of_length_eq_zero (by omega)
        subst hl0
        have hnr : Hid (normR (rr.take (k + 1)) = normR (rr.take k)) := by unfold Hid; rw [htk, normR_cons_drop]
        obtain ⟨ax, cx, rfl⟩ := hx.len
        clear hp htk hx h2 h3
        go_wp2
        exact ⟨⟨k + 1, _, _, by omega, by go_num, by rw [hnr.out]; exact HO.out, by rw [hnr.out]; exact HU.out, HB0.out, HB1.out, HB2.out, HW.out⟩, by simp [intOf]; omega⟩
    · obtain rfl : k = n := by omega
      have hT : Hid (rr.take k = rr) := by unfold Hid; rw [List.take_of_length_le (by have := HN.out; omega)]
      have hc1 := HB1.out.cell
      have hf1 := HB1.out.frozen
      have hc2 := HB2.out.cell
      rw [hT.out] at HO HU
      obtain ⟨va, vc, rfl⟩ := powns_slice HO.out
      have hend := norm_box (x := .slice va (normR rr).length vc) (show w.heap.size + 1 < w.heap.size + 3 by omega) HO.out HU.out hc1
      have HR := Lib.hid (rts_of_owns hend.1 hend.2)
      have bf := Lib.hid (HB1.out.set (.slice va (normR rr).length vc)).cell
      clear hend
      go_wp2
      refine bodyPost_ret (v := .agg #[.slice va (normR rr).length vc]) (by simp [results, Try.results35, go_sem, bf.out]) rfl ?_
      exact ⟨_, rfl, HR.out, HW.out.setCell (p := ⟨w.heap.size + 1, 0, none⟩) (by simp) _⟩
#print axioms Try.RPlanNorm_calls
end Go.Proofs
