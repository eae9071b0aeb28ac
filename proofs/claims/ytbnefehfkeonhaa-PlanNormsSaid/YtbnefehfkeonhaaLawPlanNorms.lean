/- The law PlanNorms of layer 9, as a contract: it answers true at every plan, and every number. No condition. -/
import Derived.Test.YtbnefehfkeonhaaPlanLaw
import Derived.Test.YtbnefehfkeonhaaPlanTwo
namespace Go.Proofs
open Go.RowKit Go.Plans
attribute [local go_sem] Oper.semAt_some
theorem fK_norm (s : Int) (rr : Rts) : fK (findR s (normR rr)) = fK (findR s rr) := by
  have h := findR_norm s rr
  cases h1 : findR s (normR rr) <;> cases h2 : findR s rr <;> rw [h1, h2] at h <;> simp_all [fK]
theorem fB_norm (s : Int) (rr : Rts) : fB (findR s (normR rr)) = fB (findR s rr) := by
  have h := findR_norm s rr
  cases h1 : findR s (normR rr) <;> cases h2 : findR s rr <;> rw [h1, h2] at h <;> simp_all [fB]
theorem cntX_norm (rr : Rts) (x : Int) : cntX (normR rr) x = cntX rr x := by
  unfold cntX; rw [norm_counts]
theorem flat_more {rr : Rts} {k : Nat} {l : List Int} (h : rr[k]? = some l) : (rr.take (k + 1)).flatten = (rr.take k).flatten ++ l := by
  rw [List.take_add_one, h]; simp
theorem flat_len (rr : Rts) (k : Nat) : (rr.take k).flatten.length ≤ rr.flatten.length := by rw [← many_flat, ← many_flat]; exact many_take_le rr k
/-- A row that a call has made, told by its block. -/
def RowG (A : Nat) (W : World) (g c : Nat) (l : List Int) : Prop := W.ownsRow A 3 1 (.slice (some ⟨g, 0, none⟩) l.length c) l.length (l.map intV)
theorem RowG.more {A : Nat} {W : World} {g c n m : Nat} {rr : Rts} {k : Nat} {l : List Int} (h : W.ownsRow A 3 1 (.slice (some ⟨g, 0, none⟩) (n + m) c) (n + m) ((rr.take k).flatten.map intV ++ l.map intV)) (hp : rr[k]? = some l) (hn : (rr.take k).flatten.length = n) (hm : l.length = m) : RowG A W g c (rr.take (k + 1)).flatten := by
  unfold RowG
  rw [flat_more hp, List.length_append, hn, hm, List.map_append]; exact h
theorem flat_next {rr : Rts} {k n m : Nat} {l : List Int} (hp : rr[k]? = some l) (hn : (rr.take k).flatten.length = n) (hm : l.length = m) : (rr.take (k + 1)).flatten.length = n + m := by
  rw [flat_more hp, List.length_append, hn, hm]
theorem RowG.start {W : World} {A g : Nat} (h : W.heap[g]? = some (.cells #[] 3)) (hA : A ≤ g) : RowG A W g 0 [] :=
  ⟨rfl, .inr ⟨g, 0, #[], rfl, hA, h, Nat.le_refl _, by unfold maxLen; omega, rfl, rfl⟩⟩
theorem RowG.ints {A : Nat} {W : World} {g c : Nat} {l : List Int} (h : RowG A W g c l) : HasInts W (.slice (some ⟨g, 0, none⟩) l.length c) l := hasInts_of_owns h
theorem RowG.lt {A : Nat} {W : World} {g c : Nat} {l : List Int} (h : RowG A W g c l) : A ≤ g ∧ g < W.heap.size := World.ownsRow.lt h g rfl
theorem RowG.kept {A : Nat} {W W' : World} {g c b : Nat} {l : List Int} (h : RowG A W g c l) (hg : W.grownBy W' (some b)) (hne : g ≠ b) : RowG A W' g c l :=
  World.ownsRow.kept h hg (.inr fun e => hne (Option.some.inj e))
theorem grown_below {A g : Nat} {W0 W W' : World} (h : Below A W0 W) (hA : A ≤ W.heap.size) (hAg : A ≤ g) (hg : W.grownBy W' (some g)) : Below A W0 W' :=
  h.grown hg hA (fun k e => by cases e; exact hAg)
set_option maxRecDepth 100000 in
set_option maxHeartbeats 4000000 in
theorem Try.PlanNorms_long (v : Value) (rr : Rts) (st : Int) (w : World) (hv : HasRts w v rr) (h : longR rr = true) :
    Calls Try.prog 5 #[planV v, .int .i64 st] w fun e w' => e = .returned (.bool true) ∧ Below w.heap.size w w' := by
  have HLX := Lib.hid (fun W h => Try.P8 v rr W h)
  have HSH := Lib.hid (fun W => Try.P9 W)
  have HB := Lib.hid (PB.one hv)
  obtain ⟨an, cn, rfl⟩ := hv.len
  unfold planV
  rw [h] at HLX
  clear hv h
  generalize rr.length = L at *
  go_enter Try.func5, Try.ntmps5
  go_wp2_with (fail)
  (with_reducible refine (HLX.out _ HB.out.iv).mono ?_)
  rintro e w1 ⟨rfl, hb1⟩
  have B1 := Lib.hid (HB.out.next hb1)
  clear hb1 HLX HB
  go_wp2_with (fail)
  (with_reducible refine (HSH.out _).mono ?_)
  rintro e w2 ⟨rfl, hb2⟩
  have B2 := Lib.hid (B1.out.next hb2)
  go_wp2
  go_ret
  exact ⟨rfl, B2.out.below⟩
set_option maxRecDepth 100000 in
set_option maxHeartbeats 8000000 in
theorem Try.PlanNorms_calls (v : Value) (rr : Rts) (st : Int) (w : World) (hv : HasRts w v rr) (hl : longR rr = false) :
    Calls Try.prog 5 #[planV v, .int .i64 st] w fun e w' => e = .returned (.bool true) ∧ Below w.heap.size w w' := by
  have HLX := Lib.hid (fun W h => Try.P8 v rr W h)
  rw [hl] at HLX
  have HSH := Lib.hid (fun W => Try.P9 W)
  have HB := Lib.hid (PB.one hv)
  have hf := Fit.of hl
  have hm21 : many rr ≤ 2100 := hf.all
  have H14 := Lib.hid (fun W h => Try.P14 v rr W hf h)
  have H19 := Lib.hid (fun W h => Try.P19 v rr st W h)
  have H16 := Lib.hid (fun W h => Try.P16 v rr W (by omega) h)
  have H22 := Lib.hid (fun W h => Try.P22 v rr 20 W (by omega) h)
  have H19n := Lib.hid (fun u W h => Try.P19 u (normR rr) st W h)
  rw [fK_norm, fB_norm] at H19n
  have H16n := Lib.hid (fun u W h => Try.P16 u (normR rr) W (by rw [norm_many]; omega) h)
  rw [norm_many] at H16n
  have H22n := Lib.hid (fun u W h => Try.P22 u (normR rr) 20 W (by rw [norm_many]; omega) h)
  rw [cntX_norm] at H22n
  have H14n := Lib.hid (fun u W h => Try.P14 u (normR rr) W hf.norm h)
  rw [norm_own] at H14n
  have H18n := Lib.hid (fun u x W h1 h2 => Try.P18 u x (normR rr) (normR rr) W hf.norm h1 h2)
  rw [decide_eq_true rfl] at H18n
  have hcl := cntX_len rr 20
  generalize cntX rr 20 = CL at *
  have H21c := Lib.hid (fun a b W h1 h2 => Try.P21 a b CL CL W (by omega) h1 h2)
  have hFL : rr.flatten.length ≤ 2100 := by rw [← many_flat]; exact hm21
  have H21 := Lib.hid (fun a b W h1 h2 => Try.P21 a b rr.flatten rr.flatten W (by omega) h1 h2)
  rw [decide_eq_true rfl] at H21 H21c
  have hmn : many (normR rr) ≤ 2100 := by rw [norm_many]; exact hm21
  have hnf : (normR rr).flatten = rr.flatten := norm_flat rr
  have hnn : Hid (∀ r ∈ normR rr, r ≠ []) := fun r h => norm_none h
  have hK := hf.norm.len
  have hL4 := hf.len
  have HF := Lib.hid hf
  obtain ⟨nr, hnr⟩ : ∃ nr, normR rr = nr := ⟨_, rfl⟩
  rw [hnr] at H14 H14n H18n H19n H16n H22n hmn hnf hnn hK
  have HNF := Lib.hid hnf
  generalize fI (findR st nr) = In at *
  generalize fI (findR st rr) = I at *
  generalize fK (findR st rr) = Kf at *
  generalize fB (findR st rr) = Bo at *
  have HV := Lib.hid hv
  obtain ⟨an, cn, rfl⟩ := hv.len
  unfold planV
  obtain ⟨i0, hi, hz0, hz1, hz2⟩ := info_parts Try.info3
  have HI0 := Lib.hid hi
  obtain ⟨L, hLe⟩ : ∃ L, rr.length = L := ⟨_, rfl⟩
  obtain ⟨K, hKe⟩ : ∃ K, nr.length = K := ⟨_, rfl⟩
  rw [hLe] at HLX HB H14 H19 H16 H22 HV hL4 ⊢
  rw [hKe] at H14 H14n hK
  have HLe := Lib.hid hLe
  have HKe := Lib.hid hKe
  generalize many rr = MM at *
  have HFL := Lib.hid hFL
  generalize CL.length = NC at *
  clear hv hl hf hi hLe hKe hnr hnf hFL hcl
  go_enter Try.func5, Try.ntmps5
  go_wp2_with (fail)
  (with_reducible refine (HLX.out _ HB.out.iv).mono ?_)
  rintro e w1 ⟨rfl, hb1⟩
  have B1 := Lib.hid (HB.out.next hb1)
  clear hb1 HLX HB
  go_wp2_with (fail)
  (with_reducible refine (HSH.out _).mono ?_)
  rintro e w2 ⟨rfl, hb2⟩
  have B2 := Lib.hid (B1.out.next hb2)
  have q2 := B2.out.ba.1
  clear hb2 HSH B1
  go_wp2_with (fail)
  (with_reducible refine (H14.out _ B2.out.iv).mono ?_)
  rintro e w3 ⟨nq, cq, rfl, hIq, hb3⟩
  have B3 := Lib.hid (B2.out.next hb3)
  clear hb3 B2 q2 H14
  go_wp2_with (fail)
  obtain ⟨W0, hW0⟩ : ∃ W0, W0 = w3.alloc (Obj.cells #[Value.slice nq K cq] 24) := ⟨_, rfl⟩
  have hWs : W0.heap.size = w3.heap.size + 1 := by rw [hW0]; simp
  have h30 : Below w3.heap.size w3 W0 := by rw [hW0]; exact (Below.refl _ _).alloc (Nat.le_refl _) _
  have PW : Hid (PB w w.heap.size w3.heap.size w.heap.size (.slice an L cn) rr (.slice nq K cq) nr (.slice an L cn) rr W0) := by
    have h := B3.out.next h30
    refine ⟨h.ba, ?_, h.bc, h.iv, hIq.next h30, h.ix, h.below⟩
    rw [hW0]; exact BoxAt.new _ _ _
  rw [← hW0]
  have hA0 : ((W0.alloc (Obj.cells #[] 3)).alloc (Obj.cells #[] 3)).heap[w3.heap.size + 1]? = some (Obj.cells #[] 3) := block_keep (block_at _ _ hWs) _
  have hA1 : ((W0.alloc (Obj.cells #[] 3)).alloc (Obj.cells #[] 3)).heap[w3.heap.size + 2]? = some (Obj.cells #[] 3) := block_at _ _ (by simp; omega)
  have hbW : Below W0.heap.size W0 ((W0.alloc (Obj.cells #[] 3)).alloc (Obj.cells #[] 3)) := ((Below.refl _ _).alloc (Nat.le_refl _) _).alloc (by simp) _
  have hww : w.heap.size ≤ W0.heap.size := PW.out.below.size
  clear hW0 h30 hIq B3
  go_loopw [6, 8] (fun va i wr => ∃ (k ga ca : Nat), k ≤ L ∧ va = .slice (some ⟨ga, 0, none⟩) (rr.take k).flatten.length ca ∧ i = .int .i64 (k : Int) ∧ RowG (w3.heap.size + 1) wr ga ca (rr.take k).flatten ∧ ga ≠ w3.heap.size + 2 ∧ wr.heap[w3.heap.size + 2]? = some (Obj.cells #[] 3) ∧ Below W0.heap.size W0 wr) (fun _ i _ => L - (intOf i).toNat)
  case atStart => exact ⟨0, w3.heap.size + 1, 0, Nat.zero_le _, rfl, rfl, RowG.start hA0 (Nat.le_refl _), by omega, hA1, hbW⟩
  case round =>
    obtain ⟨k, ga, ca, hk, rfl, rfl, hR, hne, hb2, hbw⟩ := hrel
    have c0 := (PW.out.ba.next hbw).1
    have HR := Lib.hid hR
    have HB2 := Lib.hid hb2
    have HBW := Lib.hid hbw
    have hws := hbw.size
    clear hA0 hA1 hbW hR hb2 hbw
    by_cases hlt : k < L
    · obtain ⟨l, hp⟩ : ∃ l, rr[k]? = some l := ⟨_, List.getElem?_eq_getElem (by have := HLe.out; omega)⟩
      obtain ⟨b, off, cp, u, hvv, hbB, hbl, hc, hu⟩ := HV.out.get hp (Nat.le_refl _) (PW.out.below.trans (HBW.out.mono hww))
      injection hvv with e1 e2 e3
      subst e1
      have hki : (k : Int) < (L : Int) := by omega
      obtain ⟨n, hn⟩ : ∃ n, (rr.take k).flatten.length = n := ⟨_, rfl⟩
      obtain ⟨m, hm⟩ : ∃ m, l.length = m := ⟨_, rfl⟩
      have hfn := flat_next hp hn hm
      have hnm : n + m ≤ 2100 := by rw [← hfn]; exact Nat.le_trans (flat_len rr (k + 1)) HFL.out
      have HP := Lib.hid hp
      have HN := Lib.hid hn
      have HM := Lib.hid hm
      have HFN := Lib.hid hfn
      rw [hn]
      by_cases hz : l = []
      · have hm0 : m = 0 := by rw [← hm, hz]; rfl
        subst hm0
        obtain ⟨ao2, cap2, rfl⟩ := hu.len
        rw [hm] at hc
        have hrow : Hid (wr.ownsRow (w3.heap.size + 1) 3 1 (.slice (some ⟨ga, 0, none⟩) n ca) n ((rr.take k).flatten.map intV)) := by
          have := HR.out
          unfold RowG at this
          rw [hn] at this
          exact this
        have hfe : Hid ((rr.take (k + 1)).flatten = (rr.take k).flatten) := by unfold Hid; rw [flat_more hp, hz, List.append_nil]
        clear hu e2 e3 hp hn hm hfn hz
        go_wp2_with (at_builtin; refine wpList_append_nothing rfl _ _ 42 rfl (w3.heap.size + 1) 3 i0 1 Try.underlying42 HI0.out _ _ _ rfl hrow.out ao2 cap2 rfl ?_)
        exact ⟨⟨k + 1, ga, ca, by omega, by rw [hfe.out, HN.out], by go_num, by rw [hfe.out]; exact HR.out, hne, HB2.out, HBW.out⟩, by simp [intOf]; omega⟩
      · rcases hu with ⟨h0, _⟩ | ⟨xb, xo, cx, rfl, hx1, hx2, hx3⟩
        · exact absurd h0 hz
        have hrow : Hid (wr.ownsRow (w3.heap.size + 1) 3 1 (.slice (some ⟨ga, 0, none⟩) n ca) n ((rr.take k).flatten.map intV)) := by
          have := HR.out
          unfold RowG at this
          rw [hn] at this
          exact this
        rw [hm] at hc
        have HX := Lib.hid hx3
        have hml : n + m ≤ maxLen := by unfold maxLen; omega
        have hml2 : (n + m) * 8 ≤ 140737488355328 := by omega
        clear e2 e3 hp hn hm hfn hz hx1 hx2 hx3
        go_wp2_with (at_builtin; refine wpList_append_two rfl _ _ 42 rfl (w3.heap.size + 1) 3 i0 (.int .i64 0) 1 8 Try.underlying42 HI0.out hz0 hz1 hz2 rfl (by decide) ga ca n _ rfl hrow.out ⟨xb, xo, none⟩ m cx (l.map intV) rfl (by rw [List.length_map, HM.out, Nat.mul_one]) (ints_news HX.out (Below.refl _ _)) (fun u hu => by obtain ⟨y, _, rfl⟩ := List.mem_map.1 hu; rfl) hml hml2 (by omega) ?_; intro g' c' w' hown' hgrow hfar)
        have hga := HR.out.lt
        have hR' := Lib.hid (RowG.more hown' HP.out HN.out HM.out)
        have hne' : w3.heap.size + 2 ≠ g' := hfar _ (Array.getElem?_eq_some_iff.1 HB2.out).1 (fun e => hne e.symm)
        have hb2' := Lib.hid ((hgrow.block (w3.heap.size + 2) (Array.getElem?_eq_some_iff.1 HB2.out).1 (fun e => hne (Option.some.inj e).symm)).trans HB2.out)
        have hbw' := Lib.hid (grown_below HBW.out (by omega) (by omega) hgrow)
        clear hown' hgrow hfar hrow
        go_wp2_with (fail)
        exact ⟨⟨k + 1, g', c', by omega, by rw [HFN.out], by go_num, hR'.out, fun e => hne' e.symm, hb2'.out, hbw'.out⟩, by simp [intOf]; omega⟩
    · obtain rfl : k = L := by omega
      have hT : (rr.take k).flatten = rr.flatten := by rw [List.take_of_length_le (by have := HLe.out; omega)]
      rw [hT] at HR ⊢
      obtain ⟨na, hna⟩ : ∃ na, rr.flatten.length = na := ⟨_, rfl⟩
      rw [hna]
      have HNA := Lib.hid hna
      clear hna hT
      go_wp2_with (fail)
      go_loopw [7, 9] (fun vb i wr2 => ∃ (j gb cb : Nat), j ≤ K ∧ vb = .slice (some ⟨gb, 0, none⟩) (nr.take j).flatten.length cb ∧ i = .int .i64 (j : Int) ∧ RowG (w3.heap.size + 1) wr2 gb cb (nr.take j).flatten ∧ ga ≠ gb ∧ RowG (w3.heap.size + 1) wr2 ga ca rr.flatten ∧ Below W0.heap.size W0 wr2) (fun _ i _ => K - (intOf i).toNat)
      case atStart => exact ⟨0, w3.heap.size + 2, 0, Nat.zero_le _, rfl, rfl, RowG.start HB2.out (by omega), hne, HR.out, HBW.out⟩
      case round =>
        obtain ⟨j, gb, cb, hj, rfl, rfl, hRb, hnab, hRa, hbw2⟩ := hrel
        have c0b := (PW.out.ba.next hbw2).1
        have c1b := (PW.out.bb.next hbw2).1
        have HRb := Lib.hid hRb
        have HRa := Lib.hid hRa
        have HBW2 := Lib.hid hbw2
        have hws2 := hbw2.size
        clear hRb hRa hbw2 HR HB2 HBW c0 hws
        by_cases hlt2 : j < K
        · obtain ⟨l, hp⟩ : ∃ l, nr[j]? = some l := ⟨_, List.getElem?_eq_getElem (by have := HKe.out; omega)⟩
          obtain ⟨b, off, cp, u, hvv, hbB, hbl, hc, hu⟩ := PW.out.iu.get hp (Nat.le_refl _) HBW2.out
          injection hvv with e1 e2 e3
          subst e1
          have hji : (j : Int) < (K : Int) := by omega
          obtain ⟨n, hn⟩ : ∃ n, (nr.take j).flatten.length = n := ⟨_, rfl⟩
          obtain ⟨m, hm⟩ : ∃ m, l.length = m := ⟨_, rfl⟩
          have hfn := flat_next hp hn hm
          have hnm : n + m ≤ 2100 := by rw [← hfn]; exact Nat.le_trans (flat_len nr (j + 1)) (by rw [HNF.out]; exact HFL.out)
          have hz : l ≠ [] := hnn.out l (List.mem_of_getElem? hp)
          have hm0 : 0 < m := by rw [← hm]; exact List.length_pos_iff.2 hz
          have HP := Lib.hid hp
          have HN := Lib.hid hn
          have HM := Lib.hid hm
          have HFN := Lib.hid hfn
          rw [hn]
          rcases hu with ⟨h0, _⟩ | ⟨xb, xo, cx, rfl, hx1, hx2, hx3⟩
          · exact absurd h0 hz
          have hrow : Hid (wr.ownsRow (w3.heap.size + 1) 3 1 (.slice (some ⟨gb, 0, none⟩) n cb) n ((nr.take j).flatten.map intV)) := by
            have := HRb.out
            unfold RowG at this
            rw [hn] at this
            exact this
          rw [hm] at hc
          have HX := Lib.hid hx3
          have hml : n + m ≤ maxLen := by unfold maxLen; omega
          have hml2 : (n + m) * 8 ≤ 140737488355328 := by omega
          have hm0i : ((m : Int) == 0) = false := beq_eq_false_iff_ne.2 (by omega)
          clear e2 e3 hp hn hm hfn hz hx1 hx2 hx3
          go_wp2_with (at_builtin; refine wpList_append_two rfl _ _ 42 rfl (w3.heap.size + 1) 3 i0 (.int .i64 0) 1 8 Try.underlying42 HI0.out hz0 hz1 hz2 rfl (by decide) gb cb n _ rfl hrow.out ⟨xb, xo, none⟩ m cx (l.map intV) rfl (by rw [List.length_map, HM.out, Nat.mul_one]) (ints_news HX.out (Below.refl _ _)) (fun u hu => by obtain ⟨y, _, rfl⟩ := List.mem_map.1 hu; rfl) hml hml2 (by omega) ?_; intro g' c' w' hown' hgrow hfar)
          have hgb := HRb.out.lt
          have hga := HRa.out.lt
          have hR' := Lib.hid (RowG.more hown' HP.out HN.out HM.out)
          have hne' : ga ≠ g' := hfar _ hga.2 hnab
          have hRa' := Lib.hid (HRa.out.kept hgrow hnab)
          have hbw' := Lib.hid (grown_below HBW2.out (by omega) (by omega) hgrow)
          clear hown' hgrow hfar hrow
          go_wp2_with (fail)
          exact ⟨⟨j + 1, g', c', by omega, by rw [HFN.out], by go_num, hR'.out, hne', hRa'.out, hbw'.out⟩, by simp [intOf]; omega⟩
        · obtain rfl : j = K := by omega
          have hT2 : (nr.take j).flatten = rr.flatten := by rw [List.take_of_length_le (by have := HKe.out; omega)]; exact HNF.out
          rw [hT2] at HRb ⊢
          rw [HNA.out]
          have Ia := HRa.out.ints
          have Ib := HRb.out.ints
          rw [HNA.out] at Ia Ib
          have B4 := Lib.hid (PW.out.next HBW2.out)
          replace Ia := Lib.hid Ia
          replace Ib := Lib.hid Ib
          clear hT2 HRa HRb PW HBW2 HI0 hz0 hz1 hz2
          go_wp2_with (fail)
          refine (H19.out _ B4.out.iv).mono ?_
          rintro e w5 ⟨rfl, hb5⟩
          have B5 := Lib.hid (B4.out.next hb5)
          have q5 := B5.out.bb.1
          replace Ia := Lib.hid (Ia.out.next hb5)
          replace Ib := Lib.hid (Ib.out.next hb5)
          clear hb5 B4 H19 c0b c1b
          go_wp2_with (fail)
          refine (H19n.out _ _ B5.out.iu).mono ?_
          rintro e w6 ⟨rfl, hb6⟩
          have B6 := Lib.hid (B5.out.next hb6)
          replace Ia := Lib.hid (Ia.out.next hb6)
          replace Ib := Lib.hid (Ib.out.next hb6)
          clear hb6 B5 H19n q5
          go_wp2
          refine wp_region_held_drew (S := PS w w.heap.size w3.heap.size w.heap.size (.slice an k cn) rr (.slice nq j cq) nr (.slice an k cn) rr) (by kernel_rfl) B6.out.drew.all (fun hHeld0 => ?_)
          have B7 := B6.out.drew
          have Ja := Ia.out.next (Below.refl _ w6).drew
          have Jb := Ib.out.next (Below.refl _ w6).drew
          clear hHeld0 Ia Ib B6
          generalize w6.drew = W7 at *
          refine wpAnyH_take (i := 0) (v := ?_) rfl (by kernel_rfl) (by kernel_rfl) (by kernel_rfl) (fun _ _ _ h => h) (Or.inl ⟨by kernel_rfl, ?_⟩) B7.all ?_
          rotate_left
          · (intro w0 hSw; (try dsimp only at hSw); obtain ⟨c0, c1, c2, hLB⟩ := hSw; go_simp; try with_reducible rfl)
          try dsimp only [List.getElem_toArray, List.getElem_cons_succ, List.getElem_cons_zero, Act.put]
          try simp only [List.setIfInBounds_toArray, List.set_cons_zero, List.set_cons_succ]
          refine wpAnyH_take (i := 1) (v := ?_) rfl (by kernel_rfl) (by kernel_rfl) (by kernel_rfl) (fun _ _ _ h => h) (Or.inl ⟨by kernel_rfl, ?_⟩) B7.all ?_
          rotate_left
          · (intro w0 hSw; (try dsimp only at hSw); obtain ⟨c0, c1, c2, hLB⟩ := hSw; go_simp; try with_reducible rfl)
          try dsimp only [List.getElem_toArray, List.getElem_cons_succ, List.getElem_cons_zero, Act.put]
          try simp only [List.setIfInBounds_toArray, List.set_cons_zero, List.set_cons_succ]
          refine wpAnyH_ready (rs := [2]) (by kernel_rfl) (by simp) (AllReadyH.cons rfl (fun K hK => ?_) AllReadyH.nil)
          go_simp
          go_at_call 21
          (with_reducible refine (H21.out _ _ _ Ja Jb).mono ?_)
          rintro e W2 ⟨rfl, h2⟩
          have B2 := B7.next h2
          refine hK.out _ _ B2.all (fun hHeld2 => ?_)
          clear hK K hHeld2
          try dsimp only [List.getElem_toArray, List.getElem_cons_succ, List.getElem_cons_zero, Act.put]
          try simp only [List.setIfInBounds_toArray, List.set_cons_zero, List.set_cons_succ]
          refine wpAnyH_take (i := 3) (v := ?_) rfl (by kernel_rfl) (by kernel_rfl) (by kernel_rfl) (fun _ _ _ h => h) (Or.inl ⟨by kernel_rfl, ?_⟩) B2.all ?_
          rotate_left
          · (intro w0 hSw; (try dsimp only at hSw); obtain ⟨c0, c1, c2, hLB⟩ := hSw; go_simp; try with_reducible rfl)
          try dsimp only [List.getElem_toArray, List.getElem_cons_succ, List.getElem_cons_zero, Act.put]
          try simp only [List.setIfInBounds_toArray, List.set_cons_zero, List.set_cons_succ]
          refine wpAnyH_take (i := 4) (v := ?_) rfl (by kernel_rfl) (by kernel_rfl) (by kernel_rfl) (fun _ _ _ h => h) (Or.inl ⟨by kernel_rfl, ?_⟩) B2.all ?_
          rotate_left
          · (intro w0 hSw; (try dsimp only at hSw); obtain ⟨c0, c1, c2, hLB⟩ := hSw; go_simp; try with_reducible rfl)
          try dsimp only [List.getElem_toArray, List.getElem_cons_succ, List.getElem_cons_zero, Act.put]
          try simp only [List.setIfInBounds_toArray, List.set_cons_zero, List.set_cons_succ]
          refine wpAnyH_take (i := 6) (v := ?_) rfl (by kernel_rfl) (by kernel_rfl) (by kernel_rfl) (fun _ _ _ h => h) (Or.inl ⟨by kernel_rfl, ?_⟩) B2.all ?_
          rotate_left
          · (intro w0 hSw; (try dsimp only at hSw); obtain ⟨c0, c1, c2, hLB⟩ := hSw; go_simp; try with_reducible rfl)
          try dsimp only [List.getElem_toArray, List.getElem_cons_succ, List.getElem_cons_zero, Act.put]
          try simp only [List.setIfInBounds_toArray, List.set_cons_zero, List.set_cons_succ]
          refine wpAnyH_ready (rs := [5]) (by kernel_rfl) (by simp) (AllReadyH.cons rfl (fun K hK => ?_) AllReadyH.nil)
          go_simp
          go_at_call 14
          (with_reducible refine (H14n.out _ _ B2.iu).mono ?_)
          rintro e W5 ⟨n1, k1, rfl, In1, h5⟩
          have B5 := B2.next h5
          refine hK.out _ _ B5.all (fun hHeld5 => ?_)
          clear hK K hHeld5
          try dsimp only [List.getElem_toArray, List.getElem_cons_succ, List.getElem_cons_zero, Act.put]
          try simp only [List.setIfInBounds_toArray, List.set_cons_zero, List.set_cons_succ]
          refine wpAnyH_ready (rs := [7]) (by kernel_rfl) (by simp) (AllReadyH.cons rfl (fun K hK => ?_) AllReadyH.nil)
          go_simp
          go_at_call 18
          (with_reducible refine (H18n.out _ _ _ In1 B5.iu).mono ?_)
          rintro e W7 ⟨rfl, h7⟩
          have B7 := B5.next h7
          replace In1 := HasRts.next In1 h7
          refine hK.out _ _ B7.all (fun hHeld7 => ?_)
          clear hK K hHeld7
          try dsimp only [List.getElem_toArray, List.getElem_cons_succ, List.getElem_cons_zero, Act.put]
          try simp only [List.setIfInBounds_toArray, List.set_cons_zero, List.set_cons_succ]
          refine wpAnyH_take (i := 8) (v := ?_) rfl (by kernel_rfl) (by kernel_rfl) (by kernel_rfl) (fun _ _ _ h => h) (Or.inl ⟨by kernel_rfl, ?_⟩) B7.all ?_
          rotate_left
          · (intro w0 hSw; (try dsimp only at hSw); obtain ⟨c0, c1, c2, hLB⟩ := hSw; go_simp; try with_reducible rfl)
          try dsimp only [List.getElem_toArray, List.getElem_cons_succ, List.getElem_cons_zero, Act.put]
          try simp only [List.setIfInBounds_toArray, List.set_cons_zero, List.set_cons_succ]
          refine wpAnyH_take (i := 9) (v := ?_) rfl (by kernel_rfl) (by kernel_rfl) (by kernel_rfl) (fun _ _ _ h => h) (Or.inl ⟨by kernel_rfl, ?_⟩) B7.all ?_
          rotate_left
          · (intro w0 hSw; (try dsimp only at hSw); obtain ⟨c0, c1, c2, hLB⟩ := hSw; go_simp; try with_reducible rfl)
          try dsimp only [List.getElem_toArray, List.getElem_cons_succ, List.getElem_cons_zero, Act.put]
          try simp only [List.setIfInBounds_toArray, List.set_cons_zero, List.set_cons_succ]
          refine wpAnyH_take (i := 10) (v := ?_) rfl (by kernel_rfl) (by kernel_rfl) (by kernel_rfl) (fun _ _ _ h => h) (Or.inl ⟨by kernel_rfl, ?_⟩) B7.all ?_
          rotate_left
          · (intro w0 hSw; (try dsimp only at hSw); obtain ⟨c0, c1, c2, hLB⟩ := hSw; go_simp; try with_reducible rfl)
          try dsimp only [List.getElem_toArray, List.getElem_cons_succ, List.getElem_cons_zero, Act.put]
          try simp only [List.setIfInBounds_toArray, List.set_cons_zero, List.set_cons_succ]
          refine wpAnyH_take (i := 12) (v := ?_) rfl (by kernel_rfl) (by kernel_rfl) (by kernel_rfl) (fun _ _ _ h => h) (Or.inl ⟨by kernel_rfl, ?_⟩) B7.all ?_
          rotate_left
          · (intro w0 hSw; (try dsimp only at hSw); obtain ⟨c0, c1, c2, hLB⟩ := hSw; go_simp; try with_reducible rfl)
          try dsimp only [List.getElem_toArray, List.getElem_cons_succ, List.getElem_cons_zero, Act.put]
          try simp only [List.setIfInBounds_toArray, List.set_cons_zero, List.set_cons_succ]
          refine wpAnyH_ready (rs := [11]) (by kernel_rfl) (by simp) (AllReadyH.cons rfl (fun K hK => ?_) AllReadyH.nil)
          go_simp
          go_at_call 16
          (with_reducible refine (H16n.out _ _ B7.iu).mono ?_)
          rintro e W11 ⟨rfl, h11⟩
          have B11 := B7.next h11
          replace In1 := HasRts.next In1 h11
          refine hK.out _ _ B11.all (fun hHeld11 => ?_)
          clear hK K hHeld11
          try dsimp only [List.getElem_toArray, List.getElem_cons_succ, List.getElem_cons_zero, Act.put]
          try simp only [List.setIfInBounds_toArray, List.set_cons_zero, List.set_cons_succ]
          refine wpAnyH_ready (rs := [13]) (by kernel_rfl) (by simp) (AllReadyH.cons rfl (fun K hK => ?_) AllReadyH.nil)
          go_simp
          go_at_call 16
          (with_reducible refine (H16.out _ B11.iv).mono ?_)
          rintro e W13 ⟨rfl, h13⟩
          have B13 := B11.next h13
          replace In1 := HasRts.next In1 h13
          refine hK.out _ _ B13.all (fun hHeld13 => ?_)
          clear hK K hHeld13
          try dsimp only [List.getElem_toArray, List.getElem_cons_succ, List.getElem_cons_zero, Act.put]
          try simp only [List.setIfInBounds_toArray, List.set_cons_zero, List.set_cons_succ]
          refine wpAnyH_take (i := 14) (v := .bool true) rfl (by kernel_rfl) (by kernel_rfl) (by kernel_rfl) (fun _ _ _ h => h) (Or.inl ⟨by kernel_rfl, ?_⟩) B13.all ?_
          · (intro w0 hSw; (try dsimp only at hSw); obtain ⟨c0, c1, c2, hLB⟩ := hSw; go_simp; try rfl)
          try dsimp only [List.getElem_toArray, List.getElem_cons_succ, List.getElem_cons_zero, Act.put]
          try simp only [List.setIfInBounds_toArray, List.set_cons_zero, List.set_cons_succ]
          refine wpAnyH_take (i := 15) (v := ?_) rfl (by kernel_rfl) (by kernel_rfl) (by kernel_rfl) (fun _ _ _ h => h) (Or.inl ⟨by kernel_rfl, ?_⟩) B13.all ?_
          rotate_left
          · (intro w0 hSw; (try dsimp only at hSw); obtain ⟨c0, c1, c2, hLB⟩ := hSw; go_simp; try with_reducible rfl)
          try dsimp only [List.getElem_toArray, List.getElem_cons_succ, List.getElem_cons_zero, Act.put]
          try simp only [List.setIfInBounds_toArray, List.set_cons_zero, List.set_cons_succ]
          refine wpAnyH_take (i := 16) (v := ?_) rfl (by kernel_rfl) (by kernel_rfl) (by kernel_rfl) (fun _ _ _ h => h) (Or.inl ⟨by kernel_rfl, ?_⟩) B13.all ?_
          rotate_left
          · (intro w0 hSw; (try dsimp only at hSw); obtain ⟨c0, c1, c2, hLB⟩ := hSw; go_simp; try with_reducible rfl)
          try dsimp only [List.getElem_toArray, List.getElem_cons_succ, List.getElem_cons_zero, Act.put]
          try simp only [List.setIfInBounds_toArray, List.set_cons_zero, List.set_cons_succ]
          refine wpAnyH_take (i := 17) (v := ?_) rfl (by kernel_rfl) (by kernel_rfl) (by kernel_rfl) (fun _ _ _ h => h) (Or.inl ⟨by kernel_rfl, ?_⟩) B13.all ?_
          rotate_left
          · (intro w0 hSw; (try dsimp only at hSw); obtain ⟨c0, c1, c2, hLB⟩ := hSw; go_simp; try with_reducible rfl)
          try dsimp only [List.getElem_toArray, List.getElem_cons_succ, List.getElem_cons_zero, Act.put]
          try simp only [List.setIfInBounds_toArray, List.set_cons_zero, List.set_cons_succ]
          refine wpAnyH_take (i := 18) (v := ?_) rfl (by kernel_rfl) (by kernel_rfl) (by kernel_rfl) (fun _ _ _ h => h) (Or.inl ⟨by kernel_rfl, ?_⟩) B13.all ?_
          rotate_left
          · (intro w0 hSw; (try dsimp only at hSw); obtain ⟨c0, c1, c2, hLB⟩ := hSw; go_simp; try with_reducible rfl)
          try dsimp only [List.getElem_toArray, List.getElem_cons_succ, List.getElem_cons_zero, Act.put]
          try simp only [List.setIfInBounds_toArray, List.set_cons_zero, List.set_cons_succ]
          refine wpAnyH_take (i := 19) (v := .bool true) rfl (by kernel_rfl) (by kernel_rfl) (by kernel_rfl) (fun _ _ _ h => h) (Or.inl ⟨by kernel_rfl, ?_⟩) B13.all ?_
          · (intro w0 hSw; (try dsimp only at hSw); obtain ⟨c0, c1, c2, hLB⟩ := hSw; go_simp; try rfl)
          try dsimp only [List.getElem_toArray, List.getElem_cons_succ, List.getElem_cons_zero, Act.put]
          try simp only [List.setIfInBounds_toArray, List.set_cons_zero, List.set_cons_succ]
          refine wpAnyH_take (i := 20) (v := ?_) rfl (by kernel_rfl) (by kernel_rfl) (by kernel_rfl) (fun _ _ _ h => h) (Or.inl ⟨by kernel_rfl, ?_⟩) B13.all ?_
          rotate_left
          · (intro w0 hSw; (try dsimp only at hSw); obtain ⟨c0, c1, c2, hLB⟩ := hSw; go_simp; try with_reducible rfl)
          try dsimp only [List.getElem_toArray, List.getElem_cons_succ, List.getElem_cons_zero, Act.put]
          try simp only [List.setIfInBounds_toArray, List.set_cons_zero, List.set_cons_succ]
          refine wpAnyH_take (i := 21) (v := ?_) rfl (by kernel_rfl) (by kernel_rfl) (by kernel_rfl) (fun _ _ _ h => h) (Or.inl ⟨by kernel_rfl, ?_⟩) B13.all ?_
          rotate_left
          · (intro w0 hSw; (try dsimp only at hSw); obtain ⟨c0, c1, c2, hLB⟩ := hSw; go_simp; try with_reducible rfl)
          try dsimp only [List.getElem_toArray, List.getElem_cons_succ, List.getElem_cons_zero, Act.put]
          try simp only [List.setIfInBounds_toArray, List.set_cons_zero, List.set_cons_succ]
          refine wpAnyH_take (i := 22) (v := ?_) rfl (by kernel_rfl) (by kernel_rfl) (by kernel_rfl) (fun _ _ _ h => h) (Or.inl ⟨by kernel_rfl, ?_⟩) B13.all ?_
          rotate_left
          · (intro w0 hSw; (try dsimp only at hSw); obtain ⟨c0, c1, c2, hLB⟩ := hSw; go_simp; try with_reducible rfl)
          try dsimp only [List.getElem_toArray, List.getElem_cons_succ, List.getElem_cons_zero, Act.put]
          try simp only [List.setIfInBounds_toArray, List.set_cons_zero, List.set_cons_succ]
          refine wpAnyH_take (i := 23) (v := ?_) rfl (by kernel_rfl) (by kernel_rfl) (by kernel_rfl) (fun _ _ _ h => h) (Or.inl ⟨by kernel_rfl, ?_⟩) B13.all ?_
          rotate_left
          · (intro w0 hSw; (try dsimp only at hSw); obtain ⟨c0, c1, c2, hLB⟩ := hSw; go_simp; try with_reducible rfl)
          try dsimp only [List.getElem_toArray, List.getElem_cons_succ, List.getElem_cons_zero, Act.put]
          try simp only [List.setIfInBounds_toArray, List.set_cons_zero, List.set_cons_succ]
          refine wpAnyH_take (i := 24) (v := .bool true) rfl (by kernel_rfl) (by kernel_rfl) (by kernel_rfl) (fun _ _ _ h => h) (Or.inl ⟨by kernel_rfl, ?_⟩) B13.all ?_
          · (intro w0 hSw; (try dsimp only at hSw); obtain ⟨c0, c1, c2, hLB⟩ := hSw; go_simp; try rfl)
          try dsimp only [List.getElem_toArray, List.getElem_cons_succ, List.getElem_cons_zero, Act.put]
          try simp only [List.setIfInBounds_toArray, List.set_cons_zero, List.set_cons_succ]
          refine wpAnyH_take (i := 25) (v := ?_) rfl (by kernel_rfl) (by kernel_rfl) (by kernel_rfl) (fun _ _ _ h => h) (Or.inl ⟨by kernel_rfl, ?_⟩) B13.all ?_
          rotate_left
          · (intro w0 hSw; (try dsimp only at hSw); obtain ⟨c0, c1, c2, hLB⟩ := hSw; go_simp; try with_reducible rfl)
          try dsimp only [List.getElem_toArray, List.getElem_cons_succ, List.getElem_cons_zero, Act.put]
          try simp only [List.setIfInBounds_toArray, List.set_cons_zero, List.set_cons_succ]
          refine wpAnyH_take (i := 26) (v := ?_) rfl (by kernel_rfl) (by kernel_rfl) (by kernel_rfl) (fun _ _ _ h => h) (Or.inl ⟨by kernel_rfl, ?_⟩) B13.all ?_
          rotate_left
          · (intro w0 hSw; (try dsimp only at hSw); obtain ⟨c0, c1, c2, hLB⟩ := hSw; go_simp; try with_reducible rfl)
          try dsimp only [List.getElem_toArray, List.getElem_cons_succ, List.getElem_cons_zero, Act.put]
          try simp only [List.setIfInBounds_toArray, List.set_cons_zero, List.set_cons_succ]
          refine wpAnyH_take (i := 27) (v := ?_) rfl (by kernel_rfl) (by kernel_rfl) (by kernel_rfl) (fun _ _ _ h => h) (Or.inl ⟨by kernel_rfl, ?_⟩) B13.all ?_
          rotate_left
          · (intro w0 hSw; (try dsimp only at hSw); obtain ⟨c0, c1, c2, hLB⟩ := hSw; go_simp; try with_reducible rfl)
          try dsimp only [List.getElem_toArray, List.getElem_cons_succ, List.getElem_cons_zero, Act.put]
          try simp only [List.setIfInBounds_toArray, List.set_cons_zero, List.set_cons_succ]
          refine wpAnyH_take (i := 29) (v := ?_) rfl (by kernel_rfl) (by kernel_rfl) (by kernel_rfl) (fun _ _ _ h => h) (Or.inl ⟨by kernel_rfl, ?_⟩) B13.all ?_
          rotate_left
          · (intro w0 hSw; (try dsimp only at hSw); obtain ⟨c0, c1, c2, hLB⟩ := hSw; go_simp; try with_reducible rfl)
          try dsimp only [List.getElem_toArray, List.getElem_cons_succ, List.getElem_cons_zero, Act.put]
          try simp only [List.setIfInBounds_toArray, List.set_cons_zero, List.set_cons_succ]
          refine wpAnyH_ready (rs := [28]) (by kernel_rfl) (by simp) (AllReadyH.cons rfl (fun K hK => ?_) AllReadyH.nil)
          go_simp
          go_at_call 22
          (with_reducible refine (H22.out _ B13.iv).mono ?_)
          rintro e W28 ⟨n2, k2, rfl, In2, h28⟩
          have B28 := B13.next h28
          replace In1 := HasRts.next In1 h28
          refine hK.out _ _ B28.all (fun hHeld28 => ?_)
          clear hK K hHeld28
          try dsimp only [List.getElem_toArray, List.getElem_cons_succ, List.getElem_cons_zero, Act.put]
          try simp only [List.setIfInBounds_toArray, List.set_cons_zero, List.set_cons_succ]
          refine wpAnyH_ready (rs := [30]) (by kernel_rfl) (by simp) (AllReadyH.cons rfl (fun K hK => ?_) AllReadyH.nil)
          go_simp
          go_at_call 22
          (with_reducible refine (H22n.out _ _ B28.iu).mono ?_)
          rintro e W30 ⟨n3, k3, rfl, In3, h30⟩
          have B30 := B28.next h30
          replace In1 := HasRts.next In1 h30
          replace In2 := HasInts.next In2 h30
          refine hK.out _ _ B30.all (fun hHeld30 => ?_)
          clear hK K hHeld30
          try dsimp only [List.getElem_toArray, List.getElem_cons_succ, List.getElem_cons_zero, Act.put]
          try simp only [List.setIfInBounds_toArray, List.set_cons_zero, List.set_cons_succ]
          refine wpAnyH_ready (rs := [31]) (by kernel_rfl) (by simp) (AllReadyH.cons rfl (fun K hK => ?_) AllReadyH.nil)
          go_simp
          go_at_call 21
          (with_reducible refine (H21c.out _ _ _ In2 In3).mono ?_)
          rintro e W31 ⟨rfl, h31⟩
          have B31 := B30.next h31
          replace In1 := HasRts.next In1 h31
          replace In2 := HasInts.next In2 h31
          replace In3 := HasInts.next In3 h31
          refine hK.out _ _ B31.all (fun hHeld31 => ?_)
          clear hK K hHeld31
          try dsimp only [List.getElem_toArray, List.getElem_cons_succ, List.getElem_cons_zero, Act.put]
          try simp only [List.setIfInBounds_toArray, List.set_cons_zero, List.set_cons_succ]
          refine wpAnyH_take (i := 32) (v := ?_) rfl (by kernel_rfl) (by kernel_rfl) (by kernel_rfl) (fun _ _ _ h => h) (Or.inl ⟨by kernel_rfl, ?_⟩) B31.all ?_
          rotate_left
          · (intro w0 hSw; (try dsimp only at hSw); obtain ⟨c0, c1, c2, hLB⟩ := hSw; go_simp; try with_reducible rfl)
          try dsimp only [List.getElem_toArray, List.getElem_cons_succ, List.getElem_cons_zero, Act.put]
          try simp only [List.setIfInBounds_toArray, List.set_cons_zero, List.set_cons_succ]
          refine wpAnyH_take (i := 33) (v := ?_) rfl (by kernel_rfl) (by kernel_rfl) (by kernel_rfl) (fun _ _ _ h => h) (Or.inl ⟨by kernel_rfl, ?_⟩) B31.all ?_
          rotate_left
          · (intro w0 hSw; (try dsimp only at hSw); obtain ⟨c0, c1, c2, hLB⟩ := hSw; go_simp; try with_reducible rfl)
          try dsimp only [List.getElem_toArray, List.getElem_cons_succ, List.getElem_cons_zero, Act.put]
          try simp only [List.setIfInBounds_toArray, List.set_cons_zero, List.set_cons_succ]
          refine wpAnyH_done (by kernel_rfl) ?_ _
          try dsimp only [List.getElem_toArray, List.getElem_cons_succ, List.getElem_cons_zero, Act.put]
          try simp only [List.setIfInBounds_toArray, List.set_cons_zero, List.set_cons_succ]
          go_wp2
          go_ret
          exact ⟨rfl, B31.below⟩
theorem Try.PlanNorms_all (v : Value) (rr : Rts) (st : Int) (_ : (Lit.int .i64 st).wf = true) (w : World) (hv : HasRts w v rr) :
    Calls Try.prog 5 #[planV v, .int .i64 st] w fun e w' => e = .returned (.bool true) ∧ Below w.heap.size w w' := by
  cases h1 : longR rr with
  | true => exact Try.PlanNorms_long v rr st w hv h1
  | false => exact Try.PlanNorms_calls v rr st w hv h1
#print axioms Try.PlanNorms_all
end Go.Proofs
