/- The document's own answers of layer 11: nodes, has, Loads. Conditions: a route of a million stops at most. -/
import Derived.Test.YthgagmndefaniaaG14
import Derived.Test.YthgagmndefaniaaG07
namespace Go.Feas
open Go.Canon Go.Plans
theorem nodesB_take {x : Ins} {r : List Int} {k : Nat} {s : Int} (h : r[k]? = some s) : nodesB x (r.take (k + 1)) = (nodesB x (r.take k) && nodeB x s) := by
  rw [ptake_snoc h, nodesB_snoc]
theorem nodesB_bad {x : Ins} {r : List Int} {k : Nat} {s : Int} (h : r[k]? = some s) (hs : nodeB x s = false) : nodesB x r = false := by
  unfold nodesB
  exact List.all_eq_false.2 ⟨s, List.mem_of_getElem? h, by rw [hs]; simp⟩
theorem nodesB_at {x : Ins} {r : List Int} (h : nodesB x r = true) {k : Nat} {s : Int} (hs : r[k]? = some s) : nodeB x s = true := List.all_eq_true.1 h s (List.mem_of_getElem? hs)
theorem nodesB_sub {x : Ins} {r : List Int} (h : nodesB x r = true) (k : Nat) : nodesB x (r.take k) = true := List.all_eq_true.2 fun s hs => List.all_eq_true.1 h s (List.mem_of_mem_take hs)
end Go.Feas
namespace Go.Proofs
open Go.RowKit Go.Shelf Go.Canon Go.Feas Go.Plans
attribute [local go_sem] Oper.semAt_some
theorem InsBox.drewN {W : World} {B : Nat} {x : Ins} {vn vm : Value} {t : TypeId} (h : InsBox W B x vn vm t) (n : Nat) : InsBox (W.drewN n) B x vn vm t := h
theorem HasInts.atc {W : World} {v : Value} {l : List Int} (h : HasInts W v l) {k : Nat} {s : Int} (hk : l[k]? = some s) : ∃ b off cap, v = .slice (some ⟨b, off, none⟩) l.length cap ∧ l.length ≤ cap ∧ cap ≤ maxLen ∧ b < W.heap.size ∧ W.cell? ⟨b, off + k, none⟩ = some (.int .i64 s) := by
  rcases h with ⟨rfl, _⟩ | ⟨b, off, cap, h1, h2, h3, h4⟩
  · simp at hk
  · exact ⟨b, off, cap, h1, h2, h3, h4.1, h4.2 k s hk⟩
set_option maxRecDepth 100000 in
theorem Try.rnodes_calls (x : Ins) (vn vm v : Value) (r : List Int) (w : World) (hx : HasIns w vn vm x) (hl : r.length ≤ 1000000) (hv : HasInts w v r) :
    Calls Try.prog 43 #[insV x vn vm, v] w fun e w' => e = .returned (.bool (nodesB x r)) ∧ Below w.heap.size w w' := by
  obtain ⟨an, cn, rfl, _⟩ := hx.nodes.dat
  obtain ⟨am, cm, rfl, _⟩ := hx.matrix.dat
  have HV := Lib.hid hv
  obtain ⟨ar, cr, rfl⟩ := hv.len
  obtain ⟨n, hn⟩ : ∃ n, r.length = n := ⟨_, rfl⟩
  rw [hn] at hl HV ⊢
  have HN := Lib.hid hn
  obtain ⟨L, hL⟩ : ∃ L, x.nodes.length = L := ⟨_, rfl⟩
  have HL := Lib.hid hL
  rw [hL]
  unfold insV
  clear hx hv hn hL
  have HB0 := Lib.hid (InsBox.new w x (.slice an L cn) (.slice am x.matrix.length cm) 40)
  have HR0 := Lib.hid (fbelow_box w (.cells #[.string x.name, .int .i64 x.kind, .int .i64 x.metric, .int .i64 x.scale, .int .i64 x.cap, .int .i64 x.fleet, .slice an L cn, .slice am x.matrix.length cm] 40))
  go_enter Try.func43, Try.ntmps43
  go_wp2
  go_loopw [5] (fun i wr => ∃ k : Nat, k ≤ n ∧ i = .int .i64 (k : Int) ∧ Hid (nodesB x (r.take k) = true) ∧ InsBox wr w.heap.size x (.slice an L cn) (.slice am x.matrix.length cm) 40 ∧ Below w.heap.size w wr) (fun i _ => n - (intOf i).toNat)
  case atStart => exact ⟨0, Nat.zero_le _, rfl, rfl, HB0.out, HR0.out⟩
  case round =>
    obtain ⟨k, hk, rfl, hT, hB, hR⟩ := hrel
    have HB := Lib.hid hB
    have HR := Lib.hid hR
    obtain ⟨c0, c1, c2, c3, c4, c5, c6, c7⟩ := hB.cells
    clear hB hR
    by_cases hlt : k < n
    · obtain ⟨s, hs⟩ : ∃ s, r[k]? = some s := ⟨_, List.getElem?_eq_getElem (by have := HN.out; omega)⟩
      have hki : (k : Int) < (n : Int) := by omega
      obtain ⟨b, off, cap, e, _, _, hbw, hc⟩ := HV.out.atc hs
      rw [HN.out] at e
      injection e with h1 h2 h3
      subst h1
      subst h3
      clear h2
      have hc := (HR.out.cell (p := ⟨b, off + k, none⟩) hbw).trans hc
      by_cases h1 : s < 0
      · have HF := Lib.hid (nodesB_bad hs (show nodeB x s = false by simp [nodeB]; omega))
        clear hs hT
        go_wp2
        go_quiet (fail)
        go_wp2
        go_ret
        exact ⟨cret_is HF.out.symm, cbelow_drewN HR.out _⟩
      · by_cases h2 : s < (L : Int)
        · have HT : Hid (nodesB x (r.take (k + 1)) = true) := (nodesB_take hs).trans (by rw [hT.out, show nodeB x s = true by have := HL.out; simp [nodeB]; omega]; rfl)
          clear hs hT
          go_wp2
          go_quiet (fail)
          go_wp2
          go_roundw
          case rel => exact ⟨k + 1, by omega, by go_num, HT, HB.out.drewN _, cbelow_drewN HR.out _⟩
          case measure => simp [intOf]; omega
        · have HF := Lib.hid (nodesB_bad hs (show nodeB x s = false by have := HL.out; simp [nodeB]; omega))
          clear hs hT
          go_wp2
          go_quiet (fail)
          go_wp2
          go_ret
          exact ⟨cret_is HF.out.symm, cbelow_drewN HR.out _⟩
    · obtain rfl : k = n := by omega
      have HF : Hid (nodesB x r = true) := by
        have h := hT.out
        rw [List.take_of_length_le (by have := HN.out; omega)] at h
        exact h
      go_wp2
      go_ret
      exact ⟨cret_is HF.out.symm, HR.out⟩
end Go.Proofs
/- The document's own Loads. Conditions: a route of a million stops at most; an instance that may be relied on. -/
namespace Go.Proofs
open Go.RowKit Go.Shelf Go.Canon Go.Feas Go.Plans
attribute [local go_sem] Oper.semAt_some
set_option maxRecDepth 100000 in
set_option maxHeartbeats 1000000 in
theorem Try.RLoads_own (x : Ins) (vn vm v : Value) (r : List Int) (w : World) (hx : HasIns w vn vm x) (hg : Fine x) (hl : r.length ≤ 1000000) (hv : HasInts w v r) :
    Calls Try.prog 24 #[insV x vn vm, v] w fun e w' => ∃ v', e = .returned v' ∧ w'.ownsRow (w.heap.size + 1) 3 1 v' (loads x r).length ((loads x r).map intV) ∧ Below w.heap.size w w' := by
  obtain ⟨i0, hi, hz0, hz1, hz2⟩ := info_parts Try.info3
  have HI := Lib.hid hi
  have HX := Lib.hid hx
  have HQ := Lib.hid fun W h k => Try.rnodes_calls x vn vm v r W h hl k
  obtain ⟨b, off, cn, rfl, hlc, hcm, hNo⟩ := hx.all hg.lo
  obtain ⟨am, cm, rfl, _⟩ := hx.matrix.dat
  have HV := Lib.hid hv
  obtain ⟨ar, cr, rfl⟩ := hv.len
  obtain ⟨n, hn⟩ : ∃ n, r.length = n := ⟨_, rfl⟩
  rw [hn] at hl HV HQ ⊢
  have HN := Lib.hid hn
  obtain ⟨L, hL⟩ : ∃ L, x.nodes.length = L := ⟨_, rfl⟩
  have HL := Lib.hid hL
  have HNO := Lib.hid fun i hi => nodesAt_nd hNo (i := i) hi
  have hbw := hNo.1
  rw [hL] at HX HQ ⊢
  have HG := Lib.hid hg
  unfold insV at HQ ⊢
  clear hx hv hn hL hg hi hNo
  have HB0 := Lib.hid ((InsBox.new w x (.slice (some ⟨b, off, none⟩) L cn) (.slice am x.matrix.length cm) 40).alloc (.cells #[] 3))
  have HR0 := Lib.hid ((fbelow_box w (.cells #[.string x.name, .int .i64 x.kind, .int .i64 x.metric, .int .i64 x.scale, .int .i64 x.cap, .int .i64 x.fleet, .slice (some ⟨b, off, none⟩) L cn, .slice am x.matrix.length cm] 40)).alloc (by simp) (.cells #[] 3))
  have HO0 : Hid (((w.alloc (.cells #[.string x.name, .int .i64 x.kind, .int .i64 x.metric, .int .i64 x.scale, .int .i64 x.cap, .int .i64 x.fleet, .slice (some ⟨b, off, none⟩) L cn, .slice am x.matrix.length cm] 40)).alloc (.cells #[] 3)).ownsRow (w.heap.size + 1) 3 1 (.slice (some ⟨w.heap.size + 1, 0, none⟩) 0 0) 0 []) := by
    have h := owns_empty1 (w.alloc (.cells #[.string x.name, .int .i64 x.kind, .int .i64 x.metric, .int .i64 x.scale, .int .i64 x.cap, .int .i64 x.fleet, .slice (some ⟨b, off, none⟩) L cn, .slice am x.matrix.length cm] 40)) 3
    unfold Hid; simpa using h
  go_enter Try.func24, Try.ntmps24
  cases hnb : nodesB x r with
  | false =>
    have HF : Hid (loads x r = []) := by unfold loads; rw [hnb]; rfl
    rw [hnb] at HQ
    clear hnb
    go_wp2_with (go_at_call 43; (with_reducible refine (HQ.out _ (HX.out.next HR0.out) (HV.out.next HR0.out)).mono ?_); rintro e w1 ⟨rfl, hb1⟩)
    go_ret
    exact ⟨_, rfl, by rw [HF.out]; exact fowns_next HO0.out hb1, HR0.out.trans (hb1.mono HR0.out.size)⟩
  | true =>
    have HT : Hid (nodesB x r = true) := hnb
    have HF : Hid (loads x r = (loadsF x r).2) := by unfold loads; rw [hnb]; rfl
    rw [hnb] at HQ
    clear hnb
    go_wp2_with (go_at_call 43; (with_reducible refine (HQ.out _ (HX.out.next HR0.out) (HV.out.next HR0.out)).mono ?_); rintro e w1 ⟨rfl, hb1⟩)
    have HB1 := Lib.hid (HB0.out.next hb1)
    have HR1 := Lib.hid (HR0.out.trans (hb1.mono HR0.out.size))
    have HO1 := Lib.hid (fowns_next HO0.out hb1)
    clear hb1 HB0 HR0 HO0 HQ HX
    go_loopw [5, 6, 7] (fun o sm i wr => ∃ k : Nat, k ≤ n ∧ sm = .int .i64 (loadsF x (r.take k)).1 ∧ i = .int .i64 (k : Int) ∧ wr.ownsRow (w.heap.size + 1) 3 1 o k ((loadsF x (r.take k)).2.map intV) ∧ InsBox wr w.heap.size x (.slice (some ⟨b, off, none⟩) L cn) (.slice am x.matrix.length cm) 40 ∧ Below w.heap.size w wr) (fun _ _ i _ => n - (intOf i).toNat)
    case atStart => exact ⟨0, Nat.zero_le _, rfl, rfl, HO1.out, HB1.out, HR1.out⟩
    case round =>
      obtain ⟨k, hk, rfl, rfl, hO, hB, hR⟩ := hrel
      have HO := Lib.hid hO
      have HB := Lib.hid hB
      have HR := Lib.hid hR
      obtain ⟨c0, c1, c2, c3, c4, c5, c6, c7⟩ := hB.cells
      clear hB hR
      by_cases hlt : k < n
      · obtain ⟨s, hs⟩ : ∃ s, r[k]? = some s := ⟨_, List.getElem?_eq_getElem (by have := HN.out; omega)⟩
        have hki : (k : Int) < (n : Int) := by omega
        obtain ⟨b2, off2, cap, e, _, _, hbw2, hc⟩ := HV.out.atc hs
        rw [HN.out] at e
        injection e with h1 h2 h3
        subst h1
        subst h3
        clear h2
        have hc := (HR.out.cell (p := ⟨b2, off2 + k, none⟩) hbw2).trans hc
        have hsn := nodeB_lt (nodesB_at HT.out hs)
        have HE := Lib.hid (by rw [ptake_snoc hs, loadsF_snoc] : loadsF x (r.take (k + 1)) = loadStep x (loadsF x (r.take k)) s)
        have hbd := loadsF_bounds HG.out (r.take k)
        rw [List.length_take, Nat.min_eq_left (by have := HN.out; omega)] at hbd
        obtain ⟨m, rfl⟩ : ∃ m : Nat, s = (m : Int) := ⟨s.toNat, by omega⟩
        rw [HL.out] at hsn
        simp only [Int.toNat_natCast] at hsn
        have hmL := hsn.2.2
        have hD := (HNO.out m (by have := HL.out; omega)).below HR.out hbw
        have hdem := HG.out.demand m
        have hd2 := hD.demand
        have HD : Hid ((nd x (m : Int)).demand = (at' x m).demand) := by unfold nd; rw [Int.toNat_natCast]; rfl
        generalize (at' x m).demand = dm at hd2 hdem HD
        have HS : Hid ((loadStep x (loadsF x (r.take k)) (m : Int)) = ((loadsF x (r.take k)).1 + dm, (loadsF x (r.take k)).2 ++ [(loadsF x (r.take k)).1 + dm])) := by unfold Hid loadStep; rw [HD.out]
        generalize loadsF x (r.take k) = t at *
        obtain ⟨t1, t2⟩ := t
        simp only at hbd HO hO HS ⊢
        have hk1 : (k : Int) ≤ 1000000 := by omega
        have hml : k + 1 ≤ maxLen := by unfold maxLen; omega
        have hml2 : (k + 1) * 8 ≤ 140737488355328 := by omega
        have hB1 : w.heap.size + 1 ≤ wr.heap.size := HB.out.lt
        clear hs hD hO
        go_wp2
        go_quiet (fail)
        obtain ⟨w5, h5⟩ : ∃ w5, w5 = wr.drewN nq := ⟨_, rfl⟩
        have hB5 : w.heap.size + 1 ≤ w5.heap.size := by rw [h5]; exact hB1
        have HO5 : Hid (w5.ownsRow (w.heap.size + 1) 3 1 u5 k (t2.map intV)) := by rw [h5]; exact HO.out
        have HB5 : Hid (InsBox w5 w.heap.size x (.slice (some ⟨b, off, none⟩) L cn) (.slice am x.matrix.length cm) 40) := by rw [h5]; exact HB.out
        have HR5 : Hid (Below w.heap.size w w5) := by rw [h5]; exact cbelow_drewN HR.out nq
        rw [← h5]
        clear h5 hB1 HO HB HR c0 c1 c2 c3 c4 c5 c6 c7 hc hd2
        go_wp2_with (at_builtin; refine wpList_append_own _ rfl _ _ 23 rfl (w.heap.size + 1) 3 i0 (.int .i64 0) 1 8 Try.underlying23 HI.out hz0 hz1 hz2 rfl (by decide) _ _ _ rfl (HO5.out.alloc _) ⟨w5.heap.size, 0, none⟩ 1 1 [.int .i64 (t1 + dm)] rfl rfl (cells_one w5 _ _) (by simp [Value.oneCell']) hml hml2 (by simp; omega) ?_; intro v' w1 hown' hgrow _)
        go_roundw
        case rel => exact ⟨k + 1, by omega, by rw [HE.out, HS.out], by go_num, by rw [HE.out, HS.out, List.map_append]; exact hown', (HB5.out.alloc _).grown (by simp) (HO5.out.alloc _) hgrow, fgrown_below (HR5.out.alloc HR5.out.size _) (by simp; omega) (by omega) (HO5.out.alloc _) hgrow⟩
        case measure => simp [intOf]; omega
      · obtain rfl : k = n := by omega
        have e : (loadsF x (r.take k)) = loadsF x r := by rw [List.take_of_length_le (by have := HN.out; omega)]
        have e2 := loadsF_length x r
        rw [e] at HO
        have HO2 : Hid (wr.ownsRow (w.heap.size + 1) 3 1 u5 (loads x r).length ((loads x r).map intV)) := by
          unfold Hid; rw [HF.out, e2, HN.out]; exact HO.out
        clear e e2 hO
        go_wp2
        go_ret
        exact ⟨_, rfl, HO2.out, HR.out⟩
end Go.Proofs
