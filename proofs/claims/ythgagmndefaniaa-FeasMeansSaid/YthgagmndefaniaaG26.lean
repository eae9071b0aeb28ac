/- The look at pairs. Conditions: an instance that may be relied on; stops that are nodes; a million at most. -/
import Derived.Test.YthgagmndefaniaaG05
import Derived.Test.YthgagmndefaniaaG25
import Derived.Test.YthgagmndefaniaaShelf
import Derived.Test.YthgagmndefaniaaG24
import Derived.Test.YthgagmndefaniaaG07
namespace Go.Proofs
open Go.RowKit Go.Shelf Go.Canon Go.Feas Go.Plans
attribute [local go_sem] Oper.semAt_some
attribute [local go_sem ↓] Go.wp_at_zero Go.wp_at_succ
theorem Try.info59 : (Try.prog.info? 59).map (fun i => (i.zero, i.size, i.bytes)) = some (some (.agg #[.int .i64 0, .int .i64 0, .int .i64 0]), 3, 24) := by kernel_rfl
/-- An instance in its box, and a row of wrongs of a call's own. -/
structure PwS (w : World) (x : Ins) (vn vm : Value) (o : Value) (l : List Wr) (t : TypeId) (W : World) : Prop where
  box : InsBox W w.heap.size x vn vm t
  below : Below w.heap.size w W
  row : W.ownsRow (w.heap.size + 1) 59 3 o l.length (l.flatMap wrC)
theorem PwS.next {w W W' : World} {x : Ins} {vn vm o : Value} {l : List Wr} {t : TypeId} (h : PwS w x vn vm o l t W) (hb : Below W.heap.size W W') : PwS w x vn vm o l t W' :=
  ⟨h.box.next hb, h.below.trans (hb.mono h.below.size), fowns_next h.row hb⟩
theorem PwS.drew {w W : World} {x : Ins} {vn vm o : Value} {l : List Wr} {t : TypeId} (h : PwS w x vn vm o l t W) : PwS w x vn vm o l t W.drew := ⟨h.box, h.below.drew, h.row⟩
theorem PwS.drewN {w W : World} {x : Ins} {vn vm o : Value} {l : List Wr} {t : TypeId} (h : PwS w x vn vm o l t W) (n : Nat) : PwS w x vn vm o l t (W.drewN n) := ⟨h.box, cbelow_drewN h.below n, h.row⟩
theorem PwS.alloc {w W : World} {x : Ins} {vn vm o : Value} {l : List Wr} {t : TypeId} (h : PwS w x vn vm o l t W) (ob : Obj) : PwS w x vn vm o l t (W.alloc ob) := h.next (fbelow_box W ob)
theorem PwS.grow {w W W' : World} {x : Ins} {vn vm o o' : Value} {l l' : List Wr} {t : TypeId} (h : PwS w x vn vm o l t W) (hg : W.grownBy W' o.ownBlock) (hr : W'.ownsRow (w.heap.size + 1) 59 3 o' l'.length (l'.flatMap wrC)) : PwS w x vn vm o' l' t W' :=
  ⟨h.box.grown (Nat.lt_succ_self _) h.row hg, fgrown_below h.below h.below.size (Nat.le_succ _) h.row hg, hr⟩
theorem PwS.slice {w W : World} {x : Ins} {vn vm o : Value} {l : List Wr} {t : TypeId} (h : PwS w x vn vm o l t W) : ∃ a c, o = .slice a l.length c := owns_dat h.row
structure NdPwS (w : World) (x : Ins) (vn vm : Value) (o : Value) (l : List Wr) (t : TypeId) (D : Nat) (d : Nd) (W : World) : Prop where
  row : PwS w x vn vm o l t W
  nd : NdBox W D d 55
theorem NdPwS.next {w W W' : World} {x : Ins} {vn vm o : Value} {l : List Wr} {t : TypeId} {D : Nat} {d : Nd} (h : NdPwS w x vn vm o l t D d W) (hb : Below W.heap.size W W') : NdPwS w x vn vm o l t D d W' := ⟨h.row.next hb, h.nd.next hb⟩
theorem NdPwS.drew {w W : World} {x : Ins} {vn vm o : Value} {l : List Wr} {t : TypeId} {D : Nat} {d : Nd} (h : NdPwS w x vn vm o l t D d W) : NdPwS w x vn vm o l t D d W.drew := ⟨h.row.drew, h.nd⟩
theorem NdPwS.drewN {w W : World} {x : Ins} {vn vm o : Value} {l : List Wr} {t : TypeId} {D : Nat} {d : Nd} (h : NdPwS w x vn vm o l t D d W) (n : Nat) : NdPwS w x vn vm o l t D d (W.drewN n) := ⟨h.row.drewN n, h.nd⟩
theorem ndPwS_S {w W : World} {x : Ins} {vn vm o : Value} {l : List Wr} {t : TypeId} {D : Nat} {d : Nd} (h : NdPwS w x vn vm o l t D d W) :
    W.cell? ⟨D, 2, none⟩ = some (.int .i64 d.demand) ∧ W.cell? ⟨D, 6, none⟩ = some (.int .i64 d.mate) ∧ NdPwS w x vn vm o l t D d W := ⟨h.nd.c 2, h.nd.c 6, h⟩
theorem Try.contains_calls (v : Value) (l : List Int) (s : Int) (w : World) (hl : l.length ≤ 1000000) (hv : HasInts w v l) :
    Calls Try.prog 71 #[v, .int .i64 s] w fun e w' => e = .returned (.bool (decide (s ∈ l))) ∧ Below w.heap.size w w' := by
  rcases hv with ⟨rfl, ao, cap, rfl⟩ | ⟨b, off, cap, rfl, h2, h3, h4⟩
  · refine (Try.slices_Contains_int_empty ao cap s w).mono ?_
    rintro e w' ⟨rfl, rfl⟩
    exact ⟨by simp, Below.refl _ _⟩
  · refine (Try.slices_Contains_int b off l.length cap l s w (Nat.le_refl _) (by omega) (fun j hj => ?_)).mono ?_
    · rw [h4.2 j (l.getD j 0) (by simp [List.getD, hj])]
    · rintro e w' ⟨rfl, rfl⟩
      refine ⟨?_, Below.refl _ _⟩
      rw [List.take_of_length_le (Nat.le_refl _)]
      congr 2
      rw [Bool.eq_iff_iff]; simp
set_option maxRecDepth 100000 in
set_option maxHeartbeats 2000000 in
theorem Try.gpairs_calls (x : Ins) (vn vm v : Value) (r : List Int) (i : Nat) (w : World) (hx : HasIns w vn vm x) (hg : Fine x) (hl : r.length ≤ 1000000) (hnb : nodesB x r = true) (hv : HasInts w v r) :
    Calls Try.prog 52 #[insV x vn vm, .int .i64 (i : Int), v] w fun e w' => ∃ v', e = .returned v' ∧ HasWrs w' v' (pairsW x i r r.length) ∧ Below w.heap.size w w' := by
  obtain ⟨i0, hio, hz0, hz1, hz2⟩ := info_parts Try.info59
  have HI := Lib.hid hio
  have HX := Lib.hid hx
  have HHS := Lib.hid fun u l s W h k => Try.contains_calls u l s W h k
  obtain ⟨b, off, cn, rfl, hlc, hcm, hNo⟩ := hx.all hg.lo
  obtain ⟨am, cm, rfl, _⟩ := hx.matrix.dat
  have HV := Lib.hid hv
  obtain ⟨ar, cr, rfl⟩ := hv.len
  obtain ⟨n, hn⟩ : ∃ n, r.length = n := ⟨_, rfl⟩
  rw [hn] at hl HV ⊢
  have HN := Lib.hid hn
  obtain ⟨L, hL⟩ : ∃ L, x.nodes.length = L := ⟨_, rfl⟩
  have HL := Lib.hid hL
  have HNO := Lib.hid fun i hi => nodesAt_nd hNo (i := i) hi
  have hbw := hNo.1
  rw [hL] at HX ⊢
  have HG := Lib.hid hg
  have HT := Lib.hid hnb
  unfold insV
  clear hx hv hn hL hg hio hNo hnb
  generalize x.matrix.length = M at *
  have HS0 : Hid (PwS w x (.slice (some ⟨b, off, none⟩) L cn) (.slice am M cm) (.slice none 0 0) ([]) 91 (w.alloc (.cells #[.string x.name, .int .i64 x.kind, .int .i64 x.metric, .int .i64 x.scale, .int .i64 x.cap, .int .i64 x.fleet, (.slice (some ⟨b, off, none⟩) L cn), (.slice am M cm)] 91))) := ⟨InsBox.new w x _ _ 91, fbelow_box w _, owns_nil _ _ _ _⟩
  go_enter Try.func52, Try.ntmps52
  go_wp2_with (fail)
  go_loopw [7, 13] (fun o kk wr => ∃ k : Nat, k ≤ n ∧ kk = .int .i64 (k : Int) ∧ PwS w x (.slice (some ⟨b, off, none⟩) L cn) (.slice am M cm) o (pairsW x i r k) 91 wr) (fun _ kk _ => n - (intOf kk).toNat)
  case atStart => exact ⟨0, Nat.zero_le _, rfl, HS0.out⟩
  case round =>
    obtain ⟨k, hk, rfl, hS⟩ := hrel
    have HS := Lib.hid hS
    have c6 := hS.box.c 6
    clear HS0
    by_cases hlt : k < n
    · obtain ⟨s, hs⟩ : ∃ s, r[k]? = some s := ⟨_, List.getElem?_eq_getElem (by have := HN.out; omega)⟩
      have hki : (k : Int) < (n : Int) := by omega
      obtain ⟨b2, off2, cap, e2, hcn0, _, hbw2, hc⟩ := HV.out.atc hs
      rw [HN.out] at e2 hcn0
      injection e2 with h1 h2 h3
      subst h1
      subst h3
      clear h2
      have hsn := nodeB_lt (nodesB_at HT.out hs)
      obtain ⟨m, rfl⟩ : ∃ m : Nat, s = (m : Int) := ⟨s.toNat, by omega⟩
      simp only [Int.toNat_natCast] at hsn
      rw [HL.out] at hsn
      have hmL := hsn.2.2
      have HDN := Lib.hid (HNO.out m (by have := HL.out; omega))
      have hPK : Hid (pairsW x i r (k + 1) = pairsW x i r k ++ if (at' x m).demand ≤ 0 ∨ (at' x m).mate ∈ r.drop (k + 1) then [] else if (at' x m).mate ∈ r then [((8, (i : Int), (m : Int)) : Wr)] else [((7, (i : Int), (m : Int)) : Wr)]) := by
        unfold Hid
        rw [pairsW]
        have hgd : r.getD k 0 = (m : Int) := by simp [List.getD, hs]
        unfold pairK nd
        rw [hgd, Int.toNat_natCast]
      have hpl := pairsW_len x i r k
      have HDR := Lib.hid (HV.out)
      clear hs
      generalize hdd : at' x m = d at *
      clear hdd
      obtain ⟨lk, hlk⟩ : ∃ lk, pairsW x i r k = lk := ⟨_, rfl⟩
      rw [hlk] at HS hpl
      have HLK := Lib.hid hlk
      have HD2 := HDN.out.below hS.below hbw
      obtain ⟨e0, e1, e2, e3, e4, e5, e6⟩ := HD2
      have hc2 := (hS.below.cell (p := ⟨b2, off2 + k, none⟩) hbw2).trans hc
      clear hlk hS
      go_upto_region 7 with (fail)
      obtain ⟨V, hV⟩ : ∃ V, V = wr.alloc (.cells #[Value.int .i64 d.x, .int .i64 d.y, .int .i64 d.demand, .int .i64 d.ready, .int .i64 d.due, .int .i64 d.service, .int .i64 d.mate] 55) := ⟨_, rfl⟩
      have HV1 : Hid (NdPwS w x (.slice (some ⟨b, off, none⟩) L cn) (.slice am M cm) u7 (lk) 91 wr.heap.size d V) := by rw [hV]; exact ⟨HS.out.alloc _, NdBox.new wr d 55⟩
      rw [← hV]
      clear hV HS c6 e0 e1 e2 e3 e4 e5 e6 hc2
      obtain ⟨d0, d1, d2, d3, d4, d5, d6⟩ := HV1.out.nd.cells
      by_cases hdem : d.demand ≤ 0
      · have HS7 : Hid (PwS w x (.slice (some ⟨b, off, none⟩) L cn) (.slice am M cm) u7 (pairsW x i r (k + 1)) 91 V) := by unfold Hid; rw [hPK.out, if_pos (.inl hdem), List.append_nil, HLK.out]; exact HV1.out.row
        clear hPK HHS HX HNO HL HT HG hmL hsn hlc hcm HV1
        go_wp2_with (fail)
        go_quiet (fail)
        go_wp2
        go_roundw
        case rel => exact ⟨k + 1, by omega, by go_num, HS7.out.drewN _⟩
        case measure => simp [intOf]; omega
      · have hdi : Hid (¬ d.demand ≤ 0) := hdem
        have hdb : decide (d.demand ≤ 0) = false := decide_eq_false hdem
        have hw1 : IntKind.i64.wrap ((k : Int) + 1) = (k : Int) + 1 := wrap_i64 (by omega) (by omega)
        have hk2i : (k : Int) + 1 ≤ (n : Int) := by omega
        have hk2p : (0 : Int) ≤ (k : Int) + 1 := by omega
        have hk2n : ((k : Int) + 1).toNat = k + 1 := by omega
        have hk2q : ¬ (k : Int) + 1 < 0 := by omega
        have hk2r : ¬ (n : Int) < (k : Int) + 1 := by omega
        have hcn : n ≤ cr := hcn0
        have hcni : (n : Int) ≤ (cr : Int) := by omega
        clear hdem
        have HVD : Hid (∀ W, Below w.heap.size w W → HasInts W (.slice (if cr = k + 1 then some ⟨b2, off2, none⟩ else some ⟨b2, off2 + (k + 1), none⟩) (n - (k + 1)) (cr - (k + 1))) (r.drop (k + 1))) := fun W hb => by
          have h := HDR.out.next hb
          rw [← HN.out] at h ⊢
          exact h.drop (by rw [HN.out]; omega) (by rw [HN.out]; exact hcn0)
        have hdl : (r.drop (k + 1)).length ≤ 1000000 := by rw [List.length_drop, HN.out]; omega
        obtain ⟨ao, hao⟩ : ∃ ao, (if cr = k + 1 then some (⟨b2, off2, none⟩ : Addr) else some ⟨b2, off2 + (k + 1), none⟩) = ao := ⟨_, rfl⟩
        rw [hao] at HVD
        by_cases hm1 : d.mate ∈ r.drop (k + 1)
        · have HS7 : Hid (∀ W, PwS w x (.slice (some ⟨b, off, none⟩) L cn) (.slice am M cm) u7 (lk) 91 W → PwS w x (.slice (some ⟨b, off, none⟩) L cn) (.slice am M cm) u7 (pairsW x i r (k + 1)) 91 W) := fun W h => by rw [hPK.out, if_pos (.inr hm1), List.append_nil, HLK.out]; exact h
          have HH1 : Hid (∀ W, Below w.heap.size w W → Calls Try.prog 71 #[.slice ao (n - (k + 1)) (cr - (k + 1)), .int .i64 d.mate] W fun e w' => e = .returned (.bool true) ∧ Below W.heap.size W w') := fun W hb => (HHS.out _ _ d.mate W hdl (HVD.out W hb)).mono fun e w' h => ⟨h.1.trans (by rw [decide_eq_true hm1]), h.2⟩
          clear hPK HHS HX HNO HL HT HG hmL hsn hlc hcm HVD hm1 hdl
          go_wp2_with (fail)
          go_region_held3 (fun W => W.cell? ⟨wr.heap.size, 2, none⟩ = some (.int .i64 d.demand) ∧ W.cell? ⟨wr.heap.size, 6, none⟩ = some (.int .i64 d.mate) ∧ NdPwS w x (.slice (some ⟨b, off, none⟩) L cn) (.slice am M cm) u7 (lk) 91 wr.heap.size d W)
            ((go_split_ands; (first | exact ndPwS_S (by assumption) | exact ndPwS_S HV1.out.drew | exact ndPwS_S (NdPwS.next HV1.out.drew (by assumption)) | exact ndPwS_S (NdPwS.drew (by assumption)) | exact ndPwS_S (NdPwS.next (by assumption) (by assumption)))))
            ((go_at_call 71; (with_reducible refine (HH1.out _ (by go_split_ands; first | exact HV1.out.drew.row.below | exact (NdPwS.row (by assumption)).below | exact (NdPwS.drew (by assumption)).row.below)).mono ?_); rintro e w3 ⟨rfl, hb3⟩))
          have T := (show _ ∧ _ ∧ NdPwS w x (.slice (some ⟨b, off, none⟩) L cn) (.slice am M cm) u7 (lk) 91 wr.heap.size d w3 by assumption).2.2
          rename_i hh
          clear hh d0 d1 d2 d3 d4 d5 d6 HV1
          have HS8 := Lib.hid (HS7.out _ T.row)
          clear T HS7 HH1 hao
          go_wp2
          go_roundw
          case rel => exact ⟨k + 1, by omega, by go_num, HS8.out⟩
          case measure => simp [intOf]; omega
        · have HH1 : Hid (∀ W, Below w.heap.size w W → Calls Try.prog 71 #[.slice ao (n - (k + 1)) (cr - (k + 1)), .int .i64 d.mate] W fun e w' => e = .returned (.bool false) ∧ Below W.heap.size W w') := fun W hb => (HHS.out _ _ d.mate W hdl (HVD.out W hb)).mono fun e w' h => ⟨h.1.trans (by rw [decide_eq_false hm1]), h.2⟩
          by_cases hm2 : d.mate ∈ r
          · have HQ : Hid (pairsW x i r (k + 1) = pairsW x i r k ++ [((8, (i : Int), (m : Int)) : Wr)]) := by unfold Hid; rw [hPK.out, if_neg (fun h => h.elim hdi.out hm1), if_pos hm2]
            have HH2 : Hid (∀ W, Below w.heap.size w W → Calls Try.prog 71 #[.slice (some ⟨b2, off2, none⟩) n cr, .int .i64 d.mate] W fun e w' => e = .returned (.bool true) ∧ Below W.heap.size W w') := fun W hb => (HHS.out _ _ d.mate W (by rw [HN.out]; exact hl) (HDR.out.next hb)).mono fun e w' h => ⟨h.1.trans (by rw [decide_eq_true hm2]), h.2⟩
            have HQ2 : Hid (pairsW x i r (k + 1) = lk ++ [((8, (i : Int), (m : Int)) : Wr)]) := by unfold Hid; rw [HQ.out, HLK.out]
            have HC := Lib.hid hc
            clear hPK HHS HX HNO HL HT HG hmL hsn hlc hcm HVD hm1 HQ hdl hm2 hc HDN HLK
            go_wp2_with (fail)
            go_region_held3 (fun W => W.cell? ⟨wr.heap.size, 2, none⟩ = some (.int .i64 d.demand) ∧ W.cell? ⟨wr.heap.size, 6, none⟩ = some (.int .i64 d.mate) ∧ NdPwS w x (.slice (some ⟨b, off, none⟩) L cn) (.slice am M cm) u7 (lk) 91 wr.heap.size d W)
              ((go_split_ands; (first | exact ndPwS_S (by assumption) | exact ndPwS_S HV1.out.drew | exact ndPwS_S (NdPwS.next HV1.out.drew (by assumption)) | exact ndPwS_S (NdPwS.drew (by assumption)) | exact ndPwS_S (NdPwS.next (by assumption) (by assumption)))))
              ((go_at_call 71; (with_reducible refine (HH1.out _ (by go_split_ands; first | exact HV1.out.drew.row.below | exact (NdPwS.row (by assumption)).below | exact (NdPwS.drew (by assumption)).row.below)).mono ?_); rintro e w3 ⟨rfl, hb3⟩))
            have T := (show _ ∧ _ ∧ NdPwS w x (.slice (some ⟨b, off, none⟩) L cn) (.slice am M cm) u7 (lk) 91 wr.heap.size d w3 by assumption).2.2
            rename_i hh
            clear hh d0 d1 d2 d3 d4 d5 d6 HV1
            have HT3 := Lib.hid T
            obtain ⟨d0, d1, d2, d3, d4, d5, d6⟩ := T.nd.cells
            clear T HH1
            go_wp2_with (first | (go_at_call 71; (with_reducible refine (HH2.out _ HT3.out.row.below).mono ?_); rintro e w4 ⟨rfl, hb4⟩; have HT4 := Lib.hid (HT3.out.next hb4); have hs4 : w.heap.size + 1 ≤ w4.heap.size := HT4.out.row.box.lt; have hc4 := (HT4.out.row.below.cell (p := ⟨b2, off2 + k, none⟩) hbw2).trans HC.out) | (at_builtin; refine wpList_append_own _ rfl _ _ 32 rfl (w.heap.size + 1) 59 i0 (.agg #[.int .i64 0, .int .i64 0, .int .i64 0]) 3 24 Try.underlying32 HI.out hz0 hz1 hz2 rfl (by decide) _ _ _ rfl (HT4.out.row.row.alloc _) ⟨w4.heap.size, 0, none⟩ 1 1 (wrC ((8, (i : Int), (m : Int)) : Wr)) rfl rfl (cells_wr w4 _ _ _ 59) (by simp [Value.oneCell', wrC]) (by unfold maxLen; omega) (by omega) (by simp; omega) ?_; intro v' w6 hown' hgrow _; have HS6 : Hid (PwS w x (.slice (some ⟨b, off, none⟩) L cn) (.slice am M cm) v' (lk ++ [((8, (i : Int), (m : Int)) : Wr)]) 91 w6) := ((HT4.out.row.alloc _).grow hgrow (by rw [List.length_append, flat_snoc]; exact hown')); clear hown' hgrow))
            go_roundw
            case rel => exact ⟨k + 1, by omega, by go_num, by rw [HQ2.out]; exact HS6.out⟩
            case measure => simp [intOf]; omega
          · have HQ : Hid (pairsW x i r (k + 1) = pairsW x i r k ++ [((7, (i : Int), (m : Int)) : Wr)]) := by unfold Hid; rw [hPK.out, if_neg (fun h => h.elim hdi.out hm1), if_neg hm2]
            have HH2 : Hid (∀ W, Below w.heap.size w W → Calls Try.prog 71 #[.slice (some ⟨b2, off2, none⟩) n cr, .int .i64 d.mate] W fun e w' => e = .returned (.bool false) ∧ Below W.heap.size W w') := fun W hb => (HHS.out _ _ d.mate W (by rw [HN.out]; exact hl) (HDR.out.next hb)).mono fun e w' h => ⟨h.1.trans (by rw [decide_eq_false hm2]), h.2⟩
            have HQ2 : Hid (pairsW x i r (k + 1) = lk ++ [((7, (i : Int), (m : Int)) : Wr)]) := by unfold Hid; rw [HQ.out, HLK.out]
            have HC := Lib.hid hc
            clear hPK HHS HX HNO HL HT HG hmL hsn hlc hcm HVD hm1 HQ hdl hm2 hc HDN HLK
            go_wp2_with (fail)
            go_region_held3 (fun W => W.cell? ⟨wr.heap.size, 2, none⟩ = some (.int .i64 d.demand) ∧ W.cell? ⟨wr.heap.size, 6, none⟩ = some (.int .i64 d.mate) ∧ NdPwS w x (.slice (some ⟨b, off, none⟩) L cn) (.slice am M cm) u7 (lk) 91 wr.heap.size d W)
              ((go_split_ands; (first | exact ndPwS_S (by assumption) | exact ndPwS_S HV1.out.drew | exact ndPwS_S (NdPwS.next HV1.out.drew (by assumption)) | exact ndPwS_S (NdPwS.drew (by assumption)) | exact ndPwS_S (NdPwS.next (by assumption) (by assumption)))))
              ((go_at_call 71; (with_reducible refine (HH1.out _ (by go_split_ands; first | exact HV1.out.drew.row.below | exact (NdPwS.row (by assumption)).below | exact (NdPwS.drew (by assumption)).row.below)).mono ?_); rintro e w3 ⟨rfl, hb3⟩))
            have T := (show _ ∧ _ ∧ NdPwS w x (.slice (some ⟨b, off, none⟩) L cn) (.slice am M cm) u7 (lk) 91 wr.heap.size d w3 by assumption).2.2
            rename_i hh
            clear hh d0 d1 d2 d3 d4 d5 d6 HV1
            have HT3 := Lib.hid T
            obtain ⟨d0, d1, d2, d3, d4, d5, d6⟩ := T.nd.cells
            clear T HH1
            go_wp2_with (first | (go_at_call 71; (with_reducible refine (HH2.out _ HT3.out.row.below).mono ?_); rintro e w4 ⟨rfl, hb4⟩; have HT4 := Lib.hid (HT3.out.next hb4); have hs4 : w.heap.size + 1 ≤ w4.heap.size := HT4.out.row.box.lt; have hc4 := (HT4.out.row.below.cell (p := ⟨b2, off2 + k, none⟩) hbw2).trans HC.out) | (at_builtin; refine wpList_append_own _ rfl _ _ 32 rfl (w.heap.size + 1) 59 i0 (.agg #[.int .i64 0, .int .i64 0, .int .i64 0]) 3 24 Try.underlying32 HI.out hz0 hz1 hz2 rfl (by decide) _ _ _ rfl (HT4.out.row.row.alloc _) ⟨w4.heap.size, 0, none⟩ 1 1 (wrC ((7, (i : Int), (m : Int)) : Wr)) rfl rfl (cells_wr w4 _ _ _ 59) (by simp [Value.oneCell', wrC]) (by unfold maxLen; omega) (by omega) (by simp; omega) ?_; intro v' w6 hown' hgrow _; have HS6 : Hid (PwS w x (.slice (some ⟨b, off, none⟩) L cn) (.slice am M cm) v' (lk ++ [((7, (i : Int), (m : Int)) : Wr)]) 91 w6) := ((HT4.out.row.alloc _).grow hgrow (by rw [List.length_append, flat_snoc]; exact hown')); clear hown' hgrow))
            go_roundw
            case rel => exact ⟨k + 1, by omega, by go_num, by rw [HQ2.out]; exact HS6.out⟩
            case measure => simp [intOf]; omega
    · obtain rfl : k = n := by omega
      have HE : Hid (HasWrs wr u7 (pairsW x i r k)) := wrs_of_owns HS.out.row
      have HBE := Lib.hid HS.out.below
      clear HS hS
      go_wp2
      go_ret
      exact ⟨_, rfl, HE.out, HBE.out⟩
end Go.Proofs
/- plan.Many of the program. Conditions: fewer than 2^62 stops. -/
namespace Go.Proofs
open Go.RowKit Go.Plans
attribute [local go_sem] Oper.semAt_some

/-- A round may turn one block of cells alone. -/
def butT (B : Nat) (b : Nat) (_ : TypeId) : Bool := b != B
theorem butT_ne {B b : Nat} (t : TypeId) (h : b ≠ B) : butT B b t = true := by simp [butT, h]
theorem butT_eq (B : Nat) (t : TypeId) : butT B B t = false := by simp [butT]
theorem below_own {n B : Nat} {w X Y : World} (h : Below n w X) {row : Option Nat} (hg : X.grownBy Y row) (hnw : n ≤ X.heap.size) (hB : n ≤ B) (hr : ∀ r, row = some r → B ≤ r ∧ ∃ o : Obj, X.heap[r]? = some o ∧ o.isCells = false) : Below n w Y :=
  h.grown hg hnw (fun k e => Nat.le_trans hB (hr k e).1)

end Go.Proofs
/- plan.Check of the program. Conditions: fewer than 2^62 stops. -/
namespace Go.Proofs
open Go.RowKit Go.Plans
attribute [local go_sem] Oper.semAt_some

/-- A visit in a block of its own. -/
structure Vis (W : World) (b : Nat) (i j s : Int) : Prop where
  blk : W.heap[b]? = some (.cells #[.int .i64 i, .int .i64 j, .int .i64 s] 108)
theorem Vis.new (W : World) (i j s : Int) : Vis (W.alloc (.cells #[.int .i64 i, .int .i64 j, .int .i64 s] 108)) W.heap.size i j s := ⟨World.alloc_heap_new W _⟩
theorem Vis.lt {W : World} {b : Nat} {i j s : Int} (h : Vis W b i j s) : b < W.heap.size := (Array.getElem?_eq_some_iff.1 h.blk).1
theorem Vis.own {X Y : World} {b : Nat} {i j s : Int} (h : Vis X b i j s) {row : Option Nat} (hg : X.grownBy Y row) {B' : Nat} (hr : ∀ r, row = some r → B' ≤ r ∧ ∃ o : Obj, X.heap[r]? = some o ∧ o.isCells = false) : Vis Y b i j s :=
  ⟨(hg.block b h.lt (fun e => by obtain ⟨_, o, ho, hc⟩ := hr b e.symm; rw [h.blk] at ho; cases ho; cases hc)).trans h.blk⟩
theorem Vis.cell0 {W : World} {b : Nat} {i j s : Int} (h : Vis W b i j s) : W.cell? ⟨b, 0, none⟩ = some (.int .i64 i) := by unfold World.cell?; simp only [h.blk]; rfl
theorem Vis.cell1 {W : World} {b : Nat} {i j s : Int} (h : Vis W b i j s) : W.cell? ⟨b, 1, none⟩ = some (.int .i64 j) := by unfold World.cell?; simp only [h.blk]; rfl
theorem Vis.cell2 {W : World} {b : Nat} {i j s : Int} (h : Vis W b i j s) : W.cell? ⟨b, 2, none⟩ = some (.int .i64 s) := by unfold World.cell?; simp only [h.blk]; rfl

def inS (s : Int) : Bool := decide (0 ≤ s) && decide (s ≤ 399)
def okTo (rr : Rts) (k : Nat) : Prop := (rr.flatten.take k).all inS = true
def badS (rr : Rts) : Prop := rr.flatten.all inS = false

end Go.Proofs
/- plan.Count of the program. Conditions: fewer than 2^62 stops. -/
namespace Go.Proofs
open Go.RowKit Go.Plans
attribute [local go_sem] Oper.semAt_some
def cntTo (rr : Rts) (N k : Nat) : List Int := cntL (rr.flatten.take k) N

theorem Try.PlanCount_out (v : Value) (rr : Rts) (x : Int) (w : World) (h : x < 1 ∨ 400 < x) (hv : HasRts w v rr) :
    Calls Try.prog 51 #[planV v, .int .i64 x] w fun e w' => e = .returned (.slice none 0 0) ∧ Below w.heap.size w w' := by
  obtain ⟨ao, cap, rfl⟩ := hv.len
  obtain ⟨n, hn⟩ : ∃ n, rr.length = n := ⟨_, rfl⟩
  rw [hn]
  clear hv hn
  unfold planV
  refine (callsIn_wide (n := 0)).1 (callsIn_of_wp_marks Try.func51 rfl trivial ?_ rfl)
  simp only [Try.ntmps51, List.size_toArray, List.length_cons, List.length_nil, Nat.reduceAdd, Nat.reduceSub, Array.replicate_succ, Array.replicate_zero, List.push_toArray, List.append_toArray, List.nil_append, List.cons_append]
  rcases Int.lt_or_le x 1 with h1 | h1
  · have d1 : decide (x < 1) = true := decide_eq_true h1
    clear h
    gi_wp2
    exact ⟨_, results_tmp rfl _ _ _, rfl, ((Below.refl _ w).alloc (Nat.le_refl _) _).alloc (by simp) _⟩
  · have d1 : decide (x < 1) = false := decide_eq_false (by omega)
    have d2 : decide (400 < x) = true := decide_eq_true (by omega)
    clear h
    gi_wp2
    exact ⟨_, results_tmp rfl _ _ _, rfl, ((Below.refl _ w).alloc (Nat.le_refl _) _).alloc (by simp) _⟩

set_option maxRecDepth 100000 in
set_option maxHeartbeats 2000000 in
theorem Try.PlanCount_in (v : Value) (rr : Rts) (N : Nat) (w : World) (h1 : 1 ≤ N) (h4 : N ≤ 400) (hm : many rr ≤ 4611686018427387904) (hv : HasRts w v rr) :
    Calls Try.prog 51 #[planV v, .int .i64 (N : Int)] w fun e w' => ∃ g, e = .returned (.slice (some ⟨g, 0, none⟩) N N) ∧ w'.ownsRow w.heap.size 3 1 (.slice (some ⟨g, 0, none⟩) N N) N ((countL rr N).map intV) ∧ Below w.heap.size w w' := by
  obtain ⟨i0, hi, hz0, hz1, hz2⟩ := info_parts Try.info3
  have HV := Lib.hid hv
  obtain ⟨ao, cap, rfl⟩ := hv.len
  obtain ⟨n, hn⟩ : ∃ n, rr.length = n := ⟨_, rfl⟩
  rw [hn] at HV ⊢
  have HM := Lib.hid hm
  have HRc := Lib.hid (fun w => Try.visits_calls (.slice ao n cap) w)
  unfold planV at HRc ⊢
  clear hv hn hm
  have d1 : decide ((N : Int) < 1) = false := decide_eq_false (by omega)
  have d2 : decide ((400 : Int) < (N : Int)) = false := decide_eq_false (by omega)
  refine (callsIn_wide (n := 0)).1 (callsIn_of_wp_marks Try.func51 rfl trivial ?_ rfl)
  simp only [Try.ntmps51, List.size_toArray, List.length_cons, List.length_nil, Nat.reduceAdd, Nat.reduceSub, Array.replicate_succ, Array.replicate_zero, List.push_toArray, List.append_toArray, List.nil_append, List.cons_append]
  gi_wp2_with (first
    | (gi_at_make; refine wpListIn_make_fullP _ rfl _ _ 23 rfl 3 i0 (.int .i64 0) Try.underlying23 hi hz0 hz1 (N : Int) N rfl rfl rfl (by rw [hz2]; omega) (by unfold maxLen; omega) ?_)
    | (refine ⟨trivial, rfl, ?_⟩; gi_at_call 70; refine (callsIn_wide.2 (HRc.out _)).mono ?_; rintro e w' ⟨rfl, rfl⟩))
  obtain ⟨V, hV⟩ : ∃ V, V = (((((w.alloc (Obj.cells #[Value.slice ao n cap] 28)).alloc (Obj.cells #[Value.int IntKind.i64 (N : Int)] 3)).alloc (Obj.cells (madeCells #[Value.int IntKind.i64 0] N) 3)).alloc (Obj.cells #[Value.slice (some { block := w.heap.size + 1 + 1, off := 0 }) N N] 23)).alloc (Obj.cells #[Value.slice ao n cap] 28)) := ⟨_, rfl⟩
  have hVs : V.heap.size = w.heap.size + 1 + 1 + 1 + 1 + 1 := by rw [hV]; simp
  have b1 : Boxed V (w.heap.size + 1) 3 (.int .i64 (N : Int)) := by rw [hV]; exact (((Boxed.at 3 _ (by simp)).alloc _).alloc _).alloc _
  have b3 : Boxed V (w.heap.size + 1 + 1 + 1) 23 (.slice (some ⟨w.heap.size + 1 + 1, 0, none⟩) N N) := by rw [hV]; exact (Boxed.at 23 _ (by simp)).alloc _
  have b4 : Boxed V (w.heap.size + 1 + 1 + 1 + 1) 28 (.slice ao n cap) := by rw [hV]; exact Boxed.at 28 _ (by simp)
  have bo : V.ownsRow w.heap.size 3 1 (.slice (some ⟨w.heap.size + 1 + 1, 0, none⟩) N N) N ((cntTo rr N 0).map intV) := by
    rw [hV]
    have h := powns_made ((w.alloc (Obj.cells #[Value.slice ao n cap] 28)).alloc (Obj.cells #[Value.int IntKind.i64 (N : Int)] 3)) w.heap.size 3 N (by simp; omega) (by unfold maxLen; omega)
    simp only [World.size_alloc] at h
    rw [show cntTo rr N 0 = List.replicate N 0 by unfold cntTo; rw [List.take_zero, cntL_nil]]
    exact (h.alloc _).alloc _
  have hB : Below w.heap.size w V := by
    rw [hV]; exact (((((Below.refl _ w).alloc (Nat.le_refl _) _).alloc (by simp) _).alloc (by simp; omega) _).alloc (by simp; omega) _).alloc (by simp; omega) _
  rw [← hV]
  clear hV hz0 hz1 hz2 hi
  refine range_seqX (T := butT (w.heap.size + 1 + 1)) (gf := 81) (lb := #[.pointer (some ⟨w.heap.size + 1 + 1 + 1 + 1, 0, none⟩)]) rfl (enters_of Try.func81 (by kernel_rfl) rfl)
    (Try.visits1_seq w _ (.slice ao n cap) rr V HV.out (Still.of_below hB) b4 (fun b t h => butT_ne t (by omega))) (Below.refl _ _) (fun k x X h => by obtain ⟨_, _, _, _, _, _, _, rfl⟩ := h; rfl)
    (fun k W => Boxed W (w.heap.size + 1) 3 (.int .i64 (N : Int)) ∧ Boxed W (w.heap.size + 1 + 1 + 1) 23 (.slice (some ⟨w.heap.size + 1 + 1, 0, none⟩) N N) ∧ W.ownsRow w.heap.size 3 1 (.slice (some ⟨w.heap.size + 1 + 1, 0, none⟩) N N) N ((cntTo rr N k).map intV) ∧ Below w.heap.size w W)
    (fun c W => False)
    (fun k X Y row h hg hr => ⟨h.1.own hg hr, h.2.1.own hg hr, pownsRow_own h.2.2.1 (by omega) hg hr, h.2.2.2.own (Nat.le_refl _) hg (by omega) hr⟩)
    (fun c _ X Y row h hg hr => h)
    ⟨b1, b3, bo, hB⟩
    (fun k a' X => ∃ (i j : Nat) (s : Int) (vb : Nat), rr.flatten[k]? = some s ∧ V.heap.size ≤ vb ∧ Vis X vb i j s ∧ a' = { tmps := #[.agg #[.slice ao n cap], .int .i64 (N : Int), .pointer (some ⟨w.heap.size, 0, none⟩), .pointer (some ⟨w.heap.size + 1, 0, none⟩), .slice none 0 0, .pointer (some ⟨w.heap.size + 1 + 1 + 1, 0, none⟩), .pointer (some ⟨vb, 0, none⟩), .int .i64 (N : Int), .bool false, .bool false, .int .i64 (N : Int), .bool false, .bool false, .int .i64 (N : Int), .slice (some ⟨w.heap.size + 1 + 1, 0, none⟩) N N, .agg #[.slice ao n cap], .func (.func 81) #[] #[.pointer (some ⟨w.heap.size + 1 + 1 + 1 + 1, 0, none⟩)], .agg #[.int .i64 (i : Int), .int .i64 (j : Int), .int .i64 s], undef, undef, undef, undef, undef, undef, undef, undef, undef, undef, undef, undef, undef, undef, undef, undef, undef], defers := [] })
    (fun k a' _ X Y row h hg hr => by
      obtain ⟨i, j, s, vb, h1, h2, h3, h4⟩ := h
      exact ⟨i, j, s, vb, h1, h2, h3.own hg hr, h4⟩) ?assign ?body ?done ?stop
  case assign =>
    intro l k x X K hkN hVX hx hi hK
    obtain ⟨i, j, r, s, h1, h2, rfl, rfl⟩ := hx
    have hfl := Lib.hid (pflat_get h1 h2)
    have HK := Lib.hid hK
    clear hK h1 h2
    gi_wp2
    exact HK.out _ _ ((RF.refl X).alloc _) ⟨hi.1.alloc _, hi.2.1.alloc _, hi.2.2.1.alloc _, hi.2.2.2.alloc (by have := hi.2.2.2.size; omega) _⟩ ⟨i, j, s, X.heap.size, hfl.out, hVX, Vis.new _ _ _ _, rfl⟩
  case body =>
    rintro l k a' X hkN hVl hlr ⟨c1, c3, co, hB1⟩ ⟨i, j, s, vb, e1, e2, e3, rfl⟩
    have hc1 := c1.cell
    have hc3 := c3.cell
    have hd2 := e3.cell2
    have hsn := ptake_snoc e1
    by_cases hs : 0 ≤ s ∧ s < (N : Int)
    · obtain ⟨c, rfl⟩ : ∃ c : Nat, s = (c : Int) := ⟨s.toNat, by omega⟩
      have hcN : c < N := by omega
      have t1 : decide (0 ≤ (c : Int)) = true := decide_eq_true (by omega)
      have t2 : decide ((c : Int) < (N : Int)) = true := decide_eq_true (by omega)
      have hstep : Hid (cntTo rr N (k + 1) = (cntTo rr N k).set c (((rr.flatten.take k).count (c : Int) : Int) + 1)) := by
        unfold Hid cntTo
        rw [hsn, cntL_in _ _ hcN]
      have hat := owns_at co hcN (cntL_get (rr.flatten.take k) hcN)
      have hmost : (rr.flatten.take k).count (c : Int) < 4611686018427387905 := by
        have h1 := List.count_le_length (a := (c : Int)) (l := rr.flatten.take k)
        rw [List.length_take] at h1
        have := HM.out
        omega
      obtain ⟨q, hq⟩ : ∃ q, (rr.flatten.take k).count (c : Int) = q := ⟨_, rfl⟩
      rw [hq] at hstep hat hmost
      have hfz := World.ownsRow.frozenAt co c
      have o1 := (World.ownsRow.stored co c (intV ((q : Int) + 1))).1
      rw [map_set, ← hstep.out] at o1
      have HO := Lib.hid o1
      have z0 := Lib.hid (prf_setAt (T := butT (w.heap.size + 1 + 1)) (RF.refl (B := V.heap.size) X) co (butT_eq _ _) c (.int .i64 ((q : Int) + 1)))
      have z1 := Lib.hid (pboxed_setAt (j := c) c1 (show w.heap.size + 1 ≠ w.heap.size + 1 + 1 by omega) (.int .i64 ((q : Int) + 1)))
      have z3 := Lib.hid (pboxed_setAt (j := c) c3 (show w.heap.size + 1 + 1 + 1 ≠ w.heap.size + 1 + 1 by omega) (.int .i64 ((q : Int) + 1)))
      have z4 := Lib.hid (lset_below (j := c) hB1 (show w.heap.size ≤ w.heap.size + 1 + 1 by omega) (.int .i64 ((q : Int) + 1)))
      clear hlr e1 e3 hsn hq hstep o1 co b1 b3 b4 bo hB
      gi_wp2
      exact ⟨z0.out, z1.out, z3.out, HO.out, z4.out⟩
    · have hout : Hid (cntTo rr N (k + 1) = cntTo rr N k) := by
        unfold Hid cntTo
        rw [hsn, cntL_out _ _ hs]
      have co' : X.ownsRow w.heap.size 3 1 (.slice (some ⟨w.heap.size + 1 + 1, 0, none⟩) N N) N ((cntTo rr N (k + 1)).map intV) := by rw [hout.out]; exact co
      clear hlr e1 e3 hsn hout co b1 b3 b4 bo hB
      by_cases h0 : 0 ≤ s
      · have t1 : decide (0 ≤ s) = true := decide_eq_true h0
        have t2 : decide (s < (N : Int)) = false := decide_eq_false (by omega)
        clear hs
        gi_wp2
        exact ⟨RF.refl _, c1, c3, co', hB1⟩
      · have t1 : decide (0 ≤ s) = false := decide_eq_false h0
        clear hs
        gi_wp2
        exact ⟨RF.refl _, c1, c3, co', hB1⟩
  case done =>
    rintro D X hD ⟨c1, c3, co, hB1⟩ hK
    have hc3 := c3.cell
    rw [show cntTo rr N (many rr) = countL rr N by unfold cntTo; rw [many_flat, List.take_length, cntL_flat]] at co
    gi_wp2
    refine ⟨by simp, .inl ⟨_, _, rfl, run_takeDeferred hK, ?_⟩⟩
    exact ⟨_, results_tmp rfl _ _ _, _, rfl, co.kept (grownBy_putObj' X D _) (.inr fun e' => by have h : w.heap.size + 1 + 1 = D := Option.some.inj e'; omega), hB1.put (Nat.le_refl _) (by omega)⟩
  case stop => exact fun _ _ _ _ h _ => h.elim
#print axioms Try.PlanCount_in
end Go.Proofs
