/- The document's own Count of layer 9. Conditions: at most two million routes; routes of at most two million stops; fewer than 2^62 stops. -/
import Derived.Test.YthgagmndefaniaaG07
import Derived.Test.YthgagmndefaniaaG14
import Derived.Test.YthgagmndefaniaaShelf
import Derived.RangeFuncBox
import Derived.Test.YthgagmndefaniaaG10
namespace Go.Proofs
open Go.RowKit Go.Plans Go.Shelf Go.Layout
attribute [local go_sem] Oper.semAt_some
theorem countL_more (rr : Rts) (c : Nat) : countL rr (c + 1) = countL rr c ++ [(countR rr (c : Int) : Int)] := by
  unfold countL; rw [List.range_succ, List.map_append]; rfl
theorem countL_len (rr : Rts) (c : Nat) : (countL rr c).length = c := by simp [countL]
theorem countR_more {rr : Rts} {k : Nat} {l : List Int} {c : Int} (h : rr[k]? = some l) : countR (rr.take (k + 1)) c = countR (rr.take k) c + l.count c := by
  rw [List.take_add_one, h, countR_append]; simp [countR]
theorem count_more {l : List Int} {q : Nat} {x c : Int} (h : l[q]? = some x) : (l.take (q + 1)).count c = (l.take q).count c + if x = c then 1 else 0 := by
  rw [List.take_add_one, h, List.count_append]
  simp [List.count_singleton]
theorem countR_le (rr : Rts) (c : Int) : countR rr c ≤ many rr := by rw [countR_flat, many_flat]; exact List.count_le_length
theorem owns_baseLe {W : World} {b c : Nat} {e : TypeId} {size : Nat} {v : Value} {k : Nat} {xs : List Value} (h : W.ownsRow c e size v k xs) (hb : b ≤ c) : W.ownsRow b e size v k xs := by
  refine ⟨h.1, ?_⟩
  rcases h.2 with h | ⟨g, cap, cur, h1, h2, h3⟩
  · exact .inl h
  · exact .inr ⟨g, cap, cur, h1, Nat.le_trans hb h2, h3⟩
set_option maxRecDepth 100000 in
set_option maxHeartbeats 2000000 in
theorem Try.RPlanCount_in (v : Value) (rr : Rts) (m : Nat) (w : World) (h1 : 1 ≤ m) (h4 : m ≤ 400) (hl : rr.length ≤ 2000000) (hls : ∀ l ∈ rr, l.length ≤ 2000000) (hm : many rr ≤ 4611686018427387904) (hv : HasRts w v rr) :
    Calls Try.prog 34 #[planV v, .int .i64 (m : Int)] w fun e w' => ∃ u, e = .returned u ∧ w'.ownsRow w.heap.size 3 1 u (countL rr m).length ((countL rr m).map intV) ∧ Below w.heap.size w w' := by
  have HV := Lib.hid hv
  obtain ⟨ao, cap, rfl⟩ := hv.len
  obtain ⟨n, hn⟩ : ∃ n, rr.length = n := ⟨_, rfl⟩
  rw [hn] at hl HV ⊢
  have HM := Lib.hid hls
  have HN := Lib.hid hn
  have hb0 := ((Below.refl _ w).alloc (Nat.le_refl _) (.cells #[.slice ao n cap] 42)).alloc (by simp) (.cells #[] 3)
  have B0 := (BoxAt.new w (.slice ao n cap) 42).next ((Below.refl _ _).alloc (Nat.le_refl _) (.cells #[] 3))
  have HMM := Lib.hid hm
  have O0 : ((w.alloc (.cells #[.slice ao n cap] 42)).alloc (.cells #[] 3)).ownsRow (w.heap.size + 1) 3 1 (.slice (some ⟨w.heap.size + 1, 0, none⟩) 0 0) 0 [] := by
    simpa using owns_empty1 (w.alloc (.cells #[.slice ao n cap] 42)) 3
  obtain ⟨i0, hi, hz0, hz1, hz2⟩ := info_parts Try.info3
  have HI := Lib.hid hi
  clear hi
  have d1 : decide ((m : Int) < 1) = false := decide_eq_false (by omega)
  have d2 : decide ((400 : Int) < (m : Int)) = false := decide_eq_false (by omega)
  clear hv hn hls hm
  unfold planV
  go_enter Try.func34, Try.ntmps34
  go_wp2
  go_loopw [5, 6, 7, 8, 9] (fun u i k2 i2 j2 wr => ∃ c : Nat, c ≤ m ∧ i = .int .i64 (c : Int) ∧ wr.ownsRow (w.heap.size + 1) 3 1 u c ((countL rr c).map intV) ∧ BoxAt wr w.heap.size (.slice ao n cap) ∧ Below w.heap.size w wr) (fun _ i _ _ _ _ => m - (intOf i).toNat)
  case atStart => exact ⟨0, Nat.zero_le _, rfl, O0, B0, hb0⟩
  case round =>
    obtain ⟨c, hc, rfl, hown, hB, hW⟩ := hrel
    have HO := Lib.hid hown
    have HB := Lib.hid hB
    have HW := Lib.hid hW
    clear B0 hb0 O0 hB hW hown
    by_cases hlt : c < m
    · have hci : (c : Int) < (m : Int) := by omega
      go_wp2
      go_loopw [7, 8, 9] (fun kk i j2 w2 => ∃ k : Nat, k ≤ n ∧ kk = .int .i64 (countR (rr.take k) (c : Int) : Int) ∧ i = .int .i64 (k : Int) ∧ Hid (w2.ownsRow (w.heap.size + 1) 3 1 u5 c ((countL rr c).map intV)) ∧ BoxAt w2 w.heap.size (.slice ao n cap) ∧ Below w.heap.size w w2) (fun _ i _ _ => n - (intOf i).toNat)
      case atStart => exact ⟨0, Nat.zero_le _, by simp [countR], rfl, HO, HB.out, HW.out⟩
      case round =>
        obtain ⟨k, hk, rfl, rfl, HO2, hB, hW⟩ := hrel
        have HB2 := Lib.hid hB
        have HW2 := Lib.hid hW
        have b0 := hB.1
        have b1 := hB.2
        clear hB hW HB HW HO
        by_cases hlt2 : k < n
        · obtain ⟨l, hp⟩ : ∃ l, rr[k]? = some l := ⟨_, List.getElem?_eq_getElem (by have := HN.out; omega)⟩
          have hll := HM.out l (List.mem_of_getElem? hp)
          have HP := Lib.hid hp
          have hki : (k : Int) < (n : Int) := by omega
          have HS : Hid (countR (rr.take k) (c : Int) + l.count (c : Int) ≤ 4611686018427387904) := by
            have e1 := countR_more (c := (c : Int)) hp
            have e2 := countR_le (rr.take (k + 1)) (c : Int)
            have e3 := many_take_le rr (k + 1)
            have e4 := HMM.out
            unfold Hid; omega
          have HQM : Hid (countR (rr.take (k + 1)) (c : Int) = countR (rr.take k) (c : Int) + l.count (c : Int)) := countR_more hp
          obtain ⟨N, hNN⟩ : ∃ N, countR (rr.take k) (c : Int) = N := ⟨_, rfl⟩
          rw [hNN] at HS HQM ⊢
          clear hp hNN
          go_wp2
          go_loopw [7, 9] (fun kk j w3 => ∃ q : Nat, q ≤ l.length ∧ kk = .int .i64 ((N + (l.take q).count (c : Int) : Nat) : Int) ∧ j = .int .i64 (q : Int) ∧ Hid (w3.ownsRow (w.heap.size + 1) 3 1 u5 c ((countL rr c).map intV)) ∧ BoxAt w3 w.heap.size (.slice ao n cap) ∧ Below w.heap.size w w3) (fun _ j _ => l.length - (intOf j).toNat)
          case atStart => exact ⟨0, Nat.zero_le _, by simp, rfl, HO2, HB2.out, HW2.out⟩
          case round =>
            obtain ⟨q, hq, rfl, rfl, HO3, hB, hW⟩ := hrel
            have HB3 := Lib.hid hB
            have HW3 := Lib.hid hW
            obtain ⟨b, off, cap', u, hv, hbB, hbw, hcc, hu⟩ := HV.out.get HP.out (Nat.le_refl _) hW
            have c0 := hB.1
            have c1 := hB.2
            clear b0 b1 hB hW HB2 HW2 HO2
            by_cases hlt3 : q < l.length
            · obtain ⟨x, hx⟩ : ∃ x, l[q]? = some x := ⟨_, List.getElem?_eq_getElem hlt3⟩
              rcases hu with ⟨rfl, _⟩ | ⟨b2, off2, cap2, rfl, _, hcm, hu⟩
              · simp at hlt3
              injection hv with h1 h2 h3
              subst h1
              have y0 := hu.2 q x hx
              have hb2 := hu.1
              have HCM := Lib.hid (count_more (c := (c : Int)) hx)
              have hle : (l.take (q + 1)).count (c : Int) ≤ l.count (c : Int) := (List.take_sublist _ _).count_le _
              have hS := HS.out
              obtain ⟨A, hA⟩ : ∃ A, (l.take q).count (c : Int) = A := ⟨_, rfl⟩
              rw [hA] at HCM ⊢
              have hcm2 := HCM.out
              obtain ⟨T, hT⟩ : ∃ T, N + A = T := ⟨_, rfl⟩
              rw [hT]
              have HT := Lib.hid hT
              obtain ⟨L, hL⟩ : ∃ L, l.length = L := ⟨_, rfl⟩
              have HL := Lib.hid hL
              rw [hL] at hcc hlt3 hll
              have hqi : (q : Int) < (L : Int) := by omega
              by_cases hxc : x = (c : Int)
              · have d : (x == (c : Int)) = true := by rw [hxc]; exact beq_self_eq_true _
                have hT1 : T + 1 ≤ 4611686018427387904 := by rw [if_pos hxc] at hcm2; omega
                have HR : Hid (N + (l.take (q + 1)).count (c : Int) = T + 1) := by
                  unfold Hid; rw [if_pos hxc] at hcm2; omega
                clear hx hu h2 h3 hL hA hT hle hS hcm2 HCM hxc
                go_wp2
                exact ⟨⟨q + 1, by have := HL.out; omega, by rw [HR.out]; go_num, by go_num, HO3, HB3.out, HW3.out⟩, by have := HL.out; simp [intOf]; omega⟩
              · have d : (x == (c : Int)) = false := beq_eq_false_iff_ne.2 hxc
                have HR : Hid (N + (l.take (q + 1)).count (c : Int) = T) := by
                  unfold Hid; rw [if_neg hxc] at hcm2; omega
                clear hx hu h2 h3 hL hA hT hle hS hcm2 HCM hxc
                go_wp2
                exact ⟨⟨q + 1, by have := HL.out; omega, by rw [HR.out], by go_num, HO3, HB3.out, HW3.out⟩, by have := HL.out; simp [intOf]; omega⟩
            · obtain rfl : q = l.length := by omega
              injection hv with h1 h2 h3
              subst h1
              obtain ⟨ao2, cap2, rfl⟩ := hu.len
              have HK : Hid (countR (rr.take (k + 1)) (c : Int) = N + (l.take l.length).count (c : Int)) := by
                unfold Hid; rw [List.take_of_length_le (Nat.le_refl _)]; exact HQM.out
              clear hu h2 h3
              go_wp2
              exact ⟨⟨k + 1, by omega, by rw [HK.out], by go_num, HO3, HB3.out, HW3.out⟩, by simp [intOf]; omega⟩
        · obtain rfl : k = n := by omega
          have hT : countR (rr.take k) (c : Int) = countR rr (c : Int) := by rw [List.take_of_length_le (by have := HN.out; omega)]
          rw [hT]
          have hcl := countL_more rr c
          obtain ⟨N, hNN⟩ : ∃ N, countR rr (c : Int) = N := ⟨_, rfl⟩
          rw [hNN] at hcl ⊢
          have HCL := Lib.hid hcl
          have hown := HO2.out
          have hs : w.heap.size + 1 ≤ wr.heap.size := HB2.out.2
          have hml : c + 1 ≤ maxLen := by unfold maxLen; omega
          have hml2 : (c + 1) * 8 ≤ 140737488355328 := by omega
          clear hT hNN hcl
          go_wp2_with (at_builtin; refine wpList_append_own _ rfl _ _ 23 rfl (w.heap.size + 1) 3 i0 (.int .i64 0) 1 8 Try.underlying23 HI.out hz0 hz1 hz2 rfl (by decide) _ _ _ rfl (hown.alloc _) ⟨wr.heap.size, 0, none⟩ 1 1 [.int .i64 (N : Int)] rfl rfl (cells_one wr _ _) (by simp [Value.oneCell']) hml hml2 (by simp; omega) ?_; intro v' w1 hown' hgrow _)
          have hb3 := lgrown_below (HW2.out) (by omega) (owns_baseLe hown (Nat.le_succ _)) hgrow
          have hb4 : Below (w.heap.size + 1) wr w1 := lgrown_below (Below.refl _ wr) hs hown hgrow
          have HB4 : Hid (BoxAt w1 w.heap.size (.slice ao k cap)) := ⟨(hb4.cell (p := ⟨w.heap.size, 0, none⟩) (Nat.lt_succ_self _)).trans HB2.out.1, Nat.lt_of_lt_of_le HB2.out.2 hb4.size⟩
          have HO4 : Hid (w1.ownsRow (w.heap.size + 1) 3 1 v' (c + 1) ((countL rr (c + 1)).map intV)) := by
            unfold Hid; rw [HCL.out, List.map_append]; exact hown'
          have HW4 := Lib.hid hb3
          clear hown hown' hgrow hb3 hb4 HO2 HB2 HW2 b0 b1
          go_wp2
          exact ⟨⟨c + 1, by omega, by go_num, HO4.out, HB4.out, HW4.out⟩, by simp [intOf]; omega⟩
    · obtain rfl : c = m := by omega
      go_wp2
      go_ret
      refine ⟨_, rfl, ?_, HW.out⟩
      rw [countL_len]
      exact owns_baseLe HO.out (by omega)
set_option maxRecDepth 100000 in
theorem Try.RPlanCount_out (v : Value) (rr : Rts) (x : Int) (w : World) (h : x < 1 ∨ 400 < x) (hv : HasRts w v rr) :
    Calls Try.prog 34 #[planV v, .int .i64 x] w fun e w' => ∃ u, e = .returned u ∧ w'.ownsRow w.heap.size 3 1 u 0 [] ∧ Below w.heap.size w w' := by
  obtain ⟨ao, cap, rfl⟩ := hv.len
  obtain ⟨n, hn⟩ : ∃ n, rr.length = n := ⟨_, rfl⟩
  rw [hn] at hv ⊢
  have hb0 := ((Below.refl _ w).alloc (Nat.le_refl _) (.cells #[.slice ao n cap] 42)).alloc (by simp) (.cells #[] 3)
  have O0 : ((w.alloc (.cells #[.slice ao n cap] 42)).alloc (.cells #[] 3)).ownsRow (w.heap.size + 1) 3 1 (.slice (some ⟨w.heap.size + 1, 0, none⟩) 0 0) 0 [] := by
    simpa using owns_empty1 (w.alloc (.cells #[.slice ao n cap] 42)) 3
  clear hv hn
  unfold planV
  by_cases h1 : x < 1
  · have d1 : decide (x < 1) = true := decide_eq_true h1
    go_enter Try.func34, Try.ntmps34
    go_wp2
    go_ret
    exact ⟨_, rfl, owns_baseLe O0 (Nat.le_succ _), hb0⟩
  · have d1 : decide (x < 1) = false := decide_eq_false h1
    have d2 : decide (400 < x) = true := decide_eq_true (by omega)
    go_enter Try.func34, Try.ntmps34
    go_wp2
    go_ret
    exact ⟨_, rfl, owns_baseLe O0 (Nat.le_succ _), hb0⟩
end Go.Proofs
/- Rows of slices that a call has made: what they read as; slices.Clone at ints. Conditions: lists of at most two million. -/
namespace Go.Proofs
open Go.RowKit Go.Plans
attribute [local go_sem] Oper.semAt_some

theorem Try.pinfo23 : (Try.prog.info? 23).map (fun i => (i.zero, i.size, i.bytes)) = some (some (.slice none 0 0), 1, 24) := by kernel_rfl
/-- A list's own row, not empty. -/
def RowAt (W : World) (u : Value) (l : List Int) : Prop := ∃ b cap, u = .slice (some ⟨b, 0, none⟩) l.length cap ∧ l.length ≤ cap ∧ cap ≤ maxLen ∧ 0 < l.length ∧ IntAt W b 0 l
/-- The values read as these lists. -/
def ValsR (W : World) (us : List Value) (mm : Rts) : Prop := us.length = mm.length ∧ ∀ (i : Nat) (l : List Int), mm[i]? = some l → ∃ u, us[i]? = some u ∧ RowAt W u l
theorem RowAt.next {W W' : World} {u : Value} {l : List Int} (h : RowAt W u l) (hb : Below W.heap.size W W') : RowAt W' u l := by
  obtain ⟨b, cap, h1, h2, h3, h4, h5⟩ := h
  exact ⟨b, cap, h1, h2, h3, h4, h5.next hb⟩
theorem RowAt.ints {W : World} {u : Value} {l : List Int} (h : RowAt W u l) : HasInts W u l := by
  obtain ⟨b, cap, h1, h2, h3, h4, h5⟩ := h
  exact .inr ⟨b, 0, cap, h1, h2, h3, h5⟩
theorem RowAt.one {W : World} {u : Value} {l : List Int} (h : RowAt W u l) : u.oneCell' = true := by
  obtain ⟨b, cap, rfl, _⟩ := h; rfl
theorem ValsR.nil (W : World) : ValsR W [] [] := ⟨rfl, fun i l h => by simp at h⟩
theorem ValsR.next {W W' : World} {us : List Value} {mm : Rts} (h : ValsR W us mm) (hb : Below W.heap.size W W') : ValsR W' us mm :=
  ⟨h.1, fun i l hi => by obtain ⟨u, h1, h2⟩ := h.2 i l hi; exact ⟨u, h1, h2.next hb⟩⟩
theorem ValsR.snoc {W : World} {us : List Value} {mm : Rts} {u : Value} {l : List Int} (h : ValsR W us mm) (hu : RowAt W u l) : ValsR W (us ++ [u]) (mm ++ [l]) := by
  refine ⟨by simp [h.1], fun i r hi => ?_⟩
  by_cases hlt : i < mm.length
  · rw [List.getElem?_append_left hlt] at hi
    obtain ⟨v, h1, h2⟩ := h.2 i r hi
    exact ⟨v, by rw [List.getElem?_append_left (by rw [h.1]; exact hlt)]; exact h1, h2⟩
  · rw [List.getElem?_append_right (by omega)] at hi
    have hlen := (List.getElem?_eq_some_iff.1 hi).1
    have e0 : i = mm.length := by simp at hlen; omega
    subst e0
    simp only [Nat.sub_self, List.getElem?_cons_zero, Option.some.injEq] at hi
    subst hi
    exact ⟨u, by rw [List.getElem?_append_right (by rw [h.1]; exact Nat.le_refl _), h.1]; simp, hu⟩
/-- An append onto the row of slices leaves what these read as. -/
theorem ValsR.grown {W W' : World} {base : Nat} {e : TypeId} {v : Value} {us : List Value} {mm : Rts} (h : ValsR W us mm) (hown : W.ownsRow base e 1 v mm.length us) (hg : W.grownBy W' v.ownBlock) : ValsR W' us mm := by
  refine ⟨h.1, fun i l hi => ?_⟩
  obtain ⟨u, h1, b, cap, h2, h3, h4, h5, h6⟩ := h.2 i l hi
  refine ⟨u, h1, b, cap, h2, h3, h4, h5, ?_⟩
  have hne : v.ownBlock ≠ some b := by
    intro hb
    have hlen : 0 < mm.length := Nat.lt_of_le_of_lt (Nat.zero_le i) (List.getElem?_eq_some_iff.1 hi).1
    rcases hown.2 with ⟨rfl, h0⟩ | ⟨g, cp, cur, rfl, _⟩
    · omega
    · have hgb : g = b := Option.some.inj hb
      subst hgb
      obtain ⟨u0, k1, k2⟩ := h.2 0 mm[0] (List.getElem?_eq_getElem hlen)
      obtain ⟨b0, c0, rfl, _⟩ := k2
      have hc := World.ownsRow.cellAt hown 0 (by omega)
      rw [k1] at hc
      obtain ⟨x, hx⟩ : ∃ x, l[0]? = some x := ⟨_, List.getElem?_eq_getElem h5⟩
      have hd := h6.2 0 x hx
      rw [hd] at hc
      cases hc
  have hblk := hg.block b h6.1 (fun e => hne e.symm)
  refine ⟨Nat.lt_of_lt_of_le h6.1 hg.size, fun j x hx => ?_⟩
  have := h6.2 j x hx
  unfold World.cell? at this ⊢
  rw [hblk]; exact this
theorem RowAt.grown {W W' : World} {row : Option Nat} {u : Value} {l : List Int} (h : RowAt W u l) (hg : W.grownBy W' row) (hne : u.ownBlock ≠ row) : RowAt W' u l := by
  obtain ⟨b, cap, rfl, h2, h3, h4, h5⟩ := h
  have hblk := hg.block b h5.1 (fun e => hne e)
  refine ⟨b, cap, rfl, h2, h3, h4, Nat.lt_of_lt_of_le h5.1 hg.size, fun j x hx => ?_⟩
  have := h5.2 j x hx
  unfold World.cell? at this ⊢
  rw [hblk]; exact this
/-- A store into a box that holds no int leaves what the rows read as. -/
theorem ValsR.box {W : World} {us : List Value} {mm : Rts} {B : Nat} {a : Option Addr} {n c : Nat} (h : ValsR W us mm) (hc : W.cell? ⟨B, 0, none⟩ = some (.slice a n c)) (x : Value) : ValsR (W.setCell ⟨B, 0, none⟩ x) us mm := by
  refine ⟨h.1, fun i l hi => ?_⟩
  obtain ⟨u, h1, h2⟩ := h.2 i l hi
  refine ⟨u, h1, h2.grown (grownBy_setCell' W B x) (fun e => ?_)⟩
  obtain ⟨b, cap, rfl, _, _, h4, h5⟩ := h2
  have hbB : b = B := Option.some.inj e
  subst hbB
  have := h5.2 0 _ (List.getElem?_eq_getElem h4)
  rw [hc] at this; cases this
theorem rts_of_owns {W : World} {base : Nat} {v : Value} {us : List Value} {mm : Rts} (h : W.ownsRow base 23 1 v mm.length us) (hv : ValsR W us mm) : HasRts W v mm := by
  rcases h.2 with ⟨rfl, h0⟩ | ⟨g, cap, cur, rfl, h1, h2, h3, h4, _⟩
  · exact .inl ⟨List.eq_nil_of_length_eq_zero h0, none, 0, rfl⟩
  · refine .inr ⟨g, 0, cap, rfl, h3, h4, (Array.getElem?_eq_some_iff.1 h2).1, fun i l hi => ?_⟩
    obtain ⟨u, k1, k2⟩ := hv.2 i l hi
    exact ⟨u, by rw [Nat.zero_add, World.ownsRow.cellAt h i (by have := (List.getElem?_eq_some_iff.1 hi).1; omega), k1], k2.ints⟩
theorem rowAt_of_owns {W : World} {base : Nat} {e : TypeId} {v : Value} {l : List Int} (h : W.ownsRow base e 1 v l.length (l.map intV)) (hl : 0 < l.length) : RowAt W v l := by
  rcases hasInts_of_owns h with ⟨rfl, _⟩ | ⟨b, off, cap, h1, h2, h3, h4⟩
  · simp at hl
  · rcases h.2 with ⟨rfl, _⟩ | ⟨g, cap', cur, h5, _⟩
    · cases h1
    · rw [h5] at h1
      simp only [Value.slice.injEq, Option.some.injEq, Addr.mk.injEq, and_true, true_and] at h1
      obtain ⟨⟨rfl, rfl⟩, rfl⟩ := h1
      exact ⟨g, cap', h5, h2, h3, hl, h4⟩
theorem normR_cons_keep {r : List Int} {rr : Rts} (h : 0 < r.length) : normR (rr ++ [r]) = normR rr ++ [r] := by
  unfold normR
  rw [List.filter_append]
  cases r with
  | nil => simp at h
  | cons a l => simp
theorem normR_cons_drop {rr : Rts} : normR (rr ++ [[]]) = normR rr := by
  unfold normR
  rw [List.filter_append]
  simp
theorem normR_len (rr : Rts) : (normR rr).length ≤ rr.length := List.length_filter_le _ _
set_option maxRecDepth 100000 in
theorem Try.LClone_calls (v : Value) (l : List Int) (w : World) (hl : 0 < l.length) (hl2 : l.length ≤ 2000000) (hv : HasInts w v l) :
    Calls Try.prog 45 #[v] w fun e w' => ∃ u, e = .returned u ∧ RowAt w' u l ∧ (∀ b, u.ownBlock = some b → w.heap.size ≤ b) ∧ Below w.heap.size w w' := by
  rcases hv with ⟨rfl, _⟩ | ⟨b, off, cap, rfl, h1, h2, h3⟩
  · simp at hl
  · refine (Try.slices_Clone_int b off l.length cap l w (Nat.le_refl _) (by omega) (fun j hj => ?_)).mono ?_
    · have := h3.2 j l[j] (List.getElem?_eq_getElem hj)
      rw [this, List.getD_eq_getElem?_getD, List.getElem?_eq_getElem hj]; rfl
    · rintro e w' ⟨u, rfl, k1, _, k2⟩
      rw [List.take_length] at k1
      exact ⟨u, rfl, rowAt_of_owns k1 hl, fun b hb => (World.ownsRow.lt k1 b hb).1, k2⟩
#print axioms Try.LClone_calls
end Go.Proofs
/- My own laws for 'for x := range f' whose elements are told by a predicate of the world (an element may itself be a function that was made but now): outside rounds, and within a round of another such loop; no program. Conditions: a walk at the fence that asks nothing; no panic and no defer in a round. -/
namespace Go
open Go.RowKit
variable {T : Nat → TypeId → Bool} {B : Nat}

/-- The cells of the blocks below n stand. -/
structure Still (n : Nat) (W W' : World) : Prop where
  size : W.heap.size ≤ W'.heap.size
  cells : ∀ (k : Nat) (c : Array Value) (t : TypeId) (z : Nat × Nat), k < n → W.heap[k]? = some (.cells c t z) → W'.heap[k]? = some (.cells c t z)
theorem Still.refl (n : Nat) (W : World) : Still n W W := ⟨Nat.le_refl _, fun _ _ _ _ _ h => h⟩
theorem Still.trans {n : Nat} {X Y Z : World} (h : Still n X Y) (k : Still n Y Z) : Still n X Z := ⟨Nat.le_trans h.size k.size, fun i c t z hi hc => k.cells i c t z hi (h.cells i c t z hi hc)⟩
theorem Still.of_below {n : Nat} {X Y : World} (h : Below n X Y) : Still n X Y := ⟨h.size, fun i _ _ _ hi hc => (h.block i hi).trans hc⟩
theorem Still.rf {n : Nat} {X Y Z : World} (h : Still n X Y) (k : RF T B Y Z) (hT : ∀ b t, b < n → T b t = true) : Still n X Z := ⟨Nat.le_trans h.size k.size, fun i c t z hi hc => k.steady i c t z (hT i t hi) (h.cells i c t z hi hc)⟩
theorem Still.own {n : Nat} {X Y Z : World} (h : Still n X Y) {row : Option Nat} (hg : Y.grownBy Z row) {B' : Nat} (hr : ∀ r, row = some r → B' ≤ r ∧ ∃ o : Obj, Y.heap[r]? = some o ∧ o.isCells = false) : Still n X Z :=
  ⟨Nat.le_trans h.size hg.size, fun i c t z hi hc => by
    have h1 := h.cells i c t z hi hc
    refine (hg.block i (Array.getElem?_eq_some_iff.1 h1).1 (fun e => ?_)).trans h1
    obtain ⟨_, o, ho, hoc⟩ := hr i e.symm
    rw [h1] at ho; cases ho; cases hoc⟩
theorem Still.alloc {n : Nat} {X Y : World} (h : Still n X Y) (o : Obj) : Still n X (Y.alloc o) :=
  ⟨Nat.le_trans h.size (by simp), fun i c t z hi hc => (Below.heap_alloc _ _ _ (Array.getElem?_eq_some_iff.1 (h.cells i c t z hi hc)).1).trans (h.cells i c t z hi hc)⟩
theorem Still.setCell {n : Nat} {X Y : World} (h : Still n X Y) {p : Addr} (hp : n ≤ p.block) (v : Value) : Still n X (Y.setCell p v) :=
  ⟨Nat.le_trans h.size (by simp [World.setCell]), fun i c t z hi hc => (Below.heap_setCell _ _ _ _ (by omega)).trans (h.cells i c t z hi hc)⟩
theorem Still.drew {n : Nat} {X Y : World} (h : Still n X Y) : Still n X Y.drew := ⟨h.size, h.cells⟩
theorem Still.cell {n : Nat} {X Y : World} (h : Still n X Y) {p : Addr} {v : Value} (hp : p.block < n) (hc : X.cell? p = some v) : Y.cell? p = some v := by
  unfold World.cell? at hc ⊢
  cases ho : X.heap[p.block]? with
  | none => rw [ho] at hc; cases hc
  | some o =>
    cases o with
    | cells c t z => rw [ho] at hc; rw [h.cells _ c t z hp ho]; exact hc
    | _ => rw [ho] at hc; cases hc
/-- A loop's own bookkeeping leaves what a round keeps. -/
theorem RF.ownF {β : Type} {B' : Nat} {X : World} (hB : X.heap.size ≤ B') : OwnFrom B' (fun (_ : β) W => RF T B X W) := fun _ Y Z row hs hg hr =>
  ⟨Nat.le_trans hs.size hg.size, fun k o hk h0 ho => by
    have h1 := hs.other k o hk h0 ho
    refine (hg.block k (Array.getElem?_eq_some_iff.1 h1).1 (fun e => ?_)).trans h1
    have h2 := (hr k e.symm).1
    have h3 := (Array.getElem?_eq_some_iff.1 h0).1
    omega,
  fun k c t z ht hk => by
    have h1 := hs.steady k c t z ht hk
    refine (hg.block k (Array.getElem?_eq_some_iff.1 h1).1 (fun e => ?_)).trans h1
    have h2 := (hr k e.symm).1
    have h3 := (Array.getElem?_eq_some_iff.1 hk).1
    omega⟩
theorem RF.setNew {X Y : World} (h : RF T B X Y) {b : Nat} (hb : X.heap.size ≤ b) (v : Value) : RF T B X (Y.setCell ⟨b, 0, none⟩ v) := by
  refine ⟨Nat.le_trans h.size (by simp [World.setCell]), fun k o hk h0 ho => ?_, fun k c t z ht hk => ?_⟩
  · have h3 := (Array.getElem?_eq_some_iff.1 h0).1
    exact (Below.heap_setCell _ _ _ _ (by show k ≠ b; omega)).trans (h.other k o hk h0 ho)
  · have h3 := (Array.getElem?_eq_some_iff.1 hk).1
    exact (Below.heap_setCell _ _ _ _ (by show k ≠ b; omega)).trans (h.steady k c t z ht hk)

/-- The contract of an iterator value: N elements, each as X says, in their order, till a round says no more. -/
def SeqX (T : Nat → TypeId → Bool) (P : Program) (gf : Nat) (lb : Array Value) (N : Nat) (X : Nat → Array Value → World → Prop) (w : World) : Prop :=
  ∀ (l : Nat) (J : Nat → World → Prop) (Jx : World → Prop) (W : World), Below w.heap.size w W → OwnFrom W.heap.size J → OwnFrom W.heap.size (fun (_ : Unit) => Jx) →
    (∀ (k : Nat) (x : Array Value) (W1 : World), k < N → W.heap.size ≤ W1.heap.size → X k x W1 → J k W1 → YieldAt Fence.wide 0 P l x W1 fun e W' => RF T W.heap.size W1 W' ∧ ((e = .returned (.bool true) ∧ J (k + 1) W') ∨ (e = .returned (.bool false) ∧ Jx W'))) →
    J 0 W →
    Calls P gf (#[.func (.yield l) #[] #[]] ++ lb) W fun e W' => (∃ v, e = .returned v) ∧ (J N W' ∨ Jx W')

theorem SeqX.later {P : Program} {gf : Nat} {lb : Array Value} {N : Nat} {X : Nat → Array Value → World → Prop} {w w' : World} (h : SeqX T P gf lb N X w) (hb : Below w.heap.size w w') : SeqX T P gf lb N X w' :=
  fun l J Jx W hW => h l J Jx W (hb.trans (hW.mono hb.size))

theorem range_seqX {P : Program} {g : Operand} {ps : Array Tmp} {assign body : Code} {Q : Exit → Act → World → Prop} {a : Act} {w : World}
    {gf : Nat} {lb : Array Value} (hg : a.eval g = .func (.func gf) #[] lb) (eg : ∀ args w, (callFunc gf args).run P w = .ok (.enter gf args) w)
    {N : Nat} {X : Nat → Array Value → World → Prop} {w0 : World} (hseq : SeqX T P gf lb N X w0) (hb0 : Below w0.heap.size w0 w) (hps : ∀ (k : Nat) (x : Array Value) (W : World), X k x W → x.size = ps.size)
    (I : Nat → World → Prop) (Ix : Code → World → Prop) (hI : OwnFrom w.heap.size I) (hIx : ∀ c, OwnFrom w.heap.size (fun (_ : Unit) => Ix c)) (h0 : I 0 w)
    (Ax : Nat → Act → World → Prop) (hAx : ∀ k a', OwnFrom w.heap.size (fun (_ : Unit) W => Ax k a' W))
    (hassign : ∀ (l k : Nat) (x : Array Value) (W : World) (K : Act → World → Prop), k < N → w.heap.size ≤ W.heap.size → X k x W → I k W → (∀ a' W', RF T w.heap.size W W' → I k W' → Ax k a' W' → K a' W') →
      assign.wpIn (Fence.wide.inRound l) 0 P (Exit.then K (fun _ _ _ => False)) { tmps := (ps.zip x).foldl (fun t (p, v) => t.setIfInBounds p v) a.tmps, defers := [] } W)
    (hbody : ∀ (l k : Nat) (a' : Act) (W : World), k < N → w.heap.size ≤ l → (∃ r, W.heap[l]? = some (.loop r)) → I k W → Ax k a' W → body.wpIn (Fence.wide.inRound l) 0 P (seqPost T w.heap.size I Ix k W) a' W)
    (hdone : ∀ (D : Nat) (W : World), w.heap.size ≤ D → I N W → W.heap[D]? = some (.deferred (some [])) → Q .normal { a with defers := { target := .collected D, args := #[] } :: a.defers } W)
    (hstop : ∀ (D : Nat) (c : Code) (W : World), w.heap.size ≤ D → Ix c W → W.heap[D]? = some (.deferred (some [])) → c.wpIn Fence.wide 0 P Q { a with defers := { target := .collected D, args := #[] } :: a.defers } W) :
    (Code.rangeFunc g ps assign body).wpIn Fence.wide 0 P Q a w := by
  refine wpIn_rangeFunc fun fn hfn => ?_
  -- the record, and the two new blocks
  let rec' : LoopState → Option Code → Loop := fun st pe => { state := st, pending := pe, fn, tmps := a.tmps, params := ps, assign, body, defers := w.heap.size }
  obtain ⟨D, hD⟩ : ∃ D, D = w.heap.size := ⟨_, rfl⟩
  obtain ⟨V, hV⟩ : ∃ V, V = (w.alloc (.deferred (some []))).alloc (.loop (rec' .ready none)) := ⟨_, rfl⟩
  have hVs : V.heap.size = D + 2 := by rw [hV, hD]; simp
  have vl : V.heap[D + 1]? = some (.loop (rec' .ready none)) := by
    have h := World.alloc_heap_new (w.alloc (.deferred (some []))) (.loop (rec' .ready none))
    rw [World.size_alloc, ← hV, ← hD] at h; exact h
  have vd : V.heap[D]? = some (.deferred (some [])) := by
    rw [hV, hD]; exact (Below.heap_alloc _ _ _ (by simp)).trans (World.alloc_heap_new w _)
  have vI : I 0 V := by rw [hV]; exact hI.alloc _ (hI.alloc _ h0)
  have vb : Below w0.heap.size w0 V := by
    rw [hV]; exact hb0.trans ((((Below.refl _ w).alloc (Nat.le_refl _) _).alloc (by simp) _).mono hb0.size)
  -- what the iterator may turn is neither cells nor the two
  have keep : ∀ {A C : World} {row : Option Nat}, A.grownBy C row → (∀ r, row = some r → V.heap.size ≤ r ∧ ∃ o : Obj, A.heap[r]? = some o ∧ o.isCells = false) → ∀ j o, j < D + 2 → A.heap[j]? = some o → C.heap[j]? = some o :=
    fun hg' hr j o hj ho => (hg'.block j (Array.getElem?_eq_some_iff.1 ho).1 (fun e => by have := (hr j e.symm).1; omega)).trans ho
  have wide : ∀ {A : World} {row : Option Nat}, (∀ r, row = some r → V.heap.size ≤ r ∧ ∃ o : Obj, A.heap[r]? = some o ∧ o.isCells = false) → (∀ r, row = some r → w.heap.size ≤ r ∧ ∃ o : Obj, A.heap[r]? = some o ∧ o.isCells = false) :=
    fun hr r e => ⟨by have := (hr r e).1; omega, (hr r e).2⟩
  refine ⟨D + 1, [{ target := .collected D, args := #[] }], V, { target := .fn (.func gf) lb, args := #[.func (.yield (D + 1)) #[] #[]] }, V, gf, #[.func (.yield (D + 1)) #[] #[]] ++ lb, V, ?_, ?_, fun _ _ => trivial, ?_, fun h => (by cases h), ?_⟩
  · rw [hV, hD]; exact run_enterLoop_outer _ _ _ _ _
  · simp only [resolve, hg]; simp [go_sem]
  · simp [invoke, go_sem, eg]
  refine (callsIn_wide.2 (hseq (D + 1)
    (fun k W => I k W ∧ W.heap[D + 1]? = some (.loop (rec' .ready none)) ∧ W.heap[D]? = some (.deferred (some [])))
    (fun W => ∃ c, Ix c W ∧ W.heap[D + 1]? = some (.loop (rec' .done (some c))) ∧ W.heap[D]? = some (.deferred (some [])))
    V vb (fun s A C row hs hg' hr => ⟨hI s A C row hs.1 hg' (wide hr), keep hg' hr _ _ (by omega) hs.2.1, keep hg' hr _ _ (by omega) hs.2.2⟩)
    (fun s A C row hs hg' hr => by
      obtain ⟨c, hc, hl, hk⟩ := hs
      exact ⟨c, hIx c s A C row hc hg' (wide hr), keep hg' hr _ _ (by omega) hl, keep hg' hr _ _ (by omega) hk⟩)
    ?_ ⟨vI, vl, vd⟩)).mono ?_
  · -- one round
    rintro k x W hkN hWs hx ⟨hi, hl, hk⟩
    have hy := run_yield (P := P) (args := x) hl (hps k x W hx)
    refine ⟨fn, _, assign, body, hy, roundIn_of_wpIn trivial (hassign _ k x W _ hkN (by omega) hx hi ?_)⟩
    intro a' Wa hra hia haa
    have hl1 := hra.other _ _ (by omega) hl rfl
    have hk1 := hra.other _ _ (by omega) hk rfl
    have hlt : D + 1 < Wa.heap.size := (Array.getElem?_eq_some_iff.1 hl1).1
    refine ⟨_, run_beginRound hl1 rfl, ?_⟩
    have r1 : RF T (D + 2) W (Wa.putObj (D + 1) (.loop { rec' .ready none with state := .busy })) := (hra.mono (by omega)).put hl1 rfl (by omega)
    have hl2 : (Wa.putObj (D + 1) (.loop { rec' .ready none with state := .busy })).heap[D + 1]? = some (.loop { rec' .ready none with state := .busy }) := World.putObj_heap_same hlt
    have hk2 : (Wa.putObj (D + 1) (.loop { rec' .ready none with state := .busy })).heap[D]? = some (.deferred (some [])) := (World.putObj_heap_other (by omega)).trans hk1
    refine wpIn_mono (hbody _ k a' _ hkN (by omega) ⟨_, hl2⟩ (hI.putObj _ hia (by omega) hl1 rfl) ((hAx k a').putObj (s := ()) _ haa (by omega) hl1 rfl)) ?_
    generalize (Wa.putObj (D + 1) (.loop { rec' .ready none with state := .busy })) = Wb at r1 hl2 hk2 ⊢
    have fin : ∀ (jump : Option Code) (W3 : World), RF T w.heap.size Wb W3 → ∃ W4,
        (Instr.endRound (D + 1) jump).run P W3 = .ok (.bool jump.isNone) W4 ∧ W3.heap[D + 1]? = some (.loop { rec' .ready none with state := .busy }) ∧ W4 = W3.putObj (D + 1) (.loop (rec' (if jump.isNone then .ready else .done) jump)) ∧
        W4.heap[D + 1]? = some (.loop (rec' (if jump.isNone then .ready else .done) jump)) ∧ W4.heap[D]? = some (.deferred (some [])) ∧ RF T V.heap.size W W4 := fun jump W3 hr3 => by
      have hl3 := hr3.other _ _ (by omega) hl2 rfl
      have hk3 := hr3.other _ _ (by omega) hk2 rfl
      refine ⟨_, run_endRound jump hl3, hl3, rfl, World.putObj_heap_same (Array.getElem?_eq_some_iff.1 hl3).1, (World.putObj_heap_other (by omega)).trans hk3, ?_⟩
      rw [hVs]
      exact (r1.trans (hr3.mono (by omega))).put hl3 rfl (by omega)
    rintro e a3 W3 hp
    cases e with
    | normal =>
      obtain ⟨W4, h1, h2, rfl, h4, h5, h6⟩ := fin none W3 hp.1
      exact ⟨_, _, h1, h6, .inl ⟨rfl, hI.putObj _ hp.2 (by omega) h2 rfl, h4, h5⟩⟩
    | ret =>
      obtain ⟨W4, h1, h2, rfl, h4, h5, h6⟩ := fin (some .ret) W3 hp.1
      exact ⟨_, _, h1, h6, .inr ⟨rfl, .ret, (hIx _).putObj (s := ()) _ hp.2 (by omega) h2 rfl, h4, h5⟩⟩
    | exit id =>
      obtain ⟨W4, h1, h2, rfl, h4, h5, h6⟩ := fin (some (.exit id)) W3 hp.1
      exact ⟨_, _, h1, h6, .inr ⟨rfl, .exit id, (hIx _).putObj (s := ()) _ hp.2 (by omega) h2 rfl, h4, h5⟩⟩
    | goto t =>
      obtain ⟨W4, h1, h2, rfl, h4, h5, h6⟩ := fin (some (.goto t)) W3 hp.1
      exact ⟨_, _, h1, h6, .inr ⟨rfl, .goto t, (hIx _).putObj (s := ()) _ hp.2 (by omega) h2 rfl, h4, h5⟩⟩
    | panic ch => exact hp.elim
    | outgrown => exact hp.elim
  · rintro e W2 ⟨⟨v, rfl⟩, (⟨hi, hl, hk⟩ | ⟨c, hc, hl, hk⟩)⟩
    · exact ⟨none, _, run_endLoop hl (by simp [rec']), hdone D _ (by omega) (hI.putObj _ hi (by omega) hl rfl) ((World.putObj_heap_other (by omega)).trans hk)⟩
    · exact ⟨some c, _, run_endLoop hl (by simp [rec']), hstop D c _ (by omega) ((hIx c).putObj (s := ()) _ hc (by omega) hl rfl) ((World.putObj_heap_other (by omega)).trans hk)⟩

theorem range_seqX_in {P : Program} {g : Operand} {ps : Array Tmp} {assign body : Code} {Q : Exit → Act → World → Prop} {a : Act} {w : World} {l₀ : Nat} (hl₀ : ∃ r, w.heap[l₀]? = some (.loop r))
    {gf : Nat} {lb : Array Value} (hg : a.eval g = .func (.func gf) #[] lb) (eg : ∀ args w, (callFunc gf args).run P w = .ok (.enter gf args) w)
    {N : Nat} {X : Nat → Array Value → World → Prop} {w0 : World} (hseq : SeqX T P gf lb N X w0) (hb0 : Below w0.heap.size w0 w) (hps : ∀ (k : Nat) (x : Array Value) (W : World), X k x W → x.size = ps.size)
    (I : Nat → World → Prop) (Ix : Code → World → Prop) (hI : OwnFrom w.heap.size I) (hIx : ∀ c, OwnFrom w.heap.size (fun (_ : Unit) => Ix c)) (h0 : I 0 w)
    (Ax : Nat → Act → World → Prop) (hAx : ∀ k a', OwnFrom w.heap.size (fun (_ : Unit) W => Ax k a' W))
    (hassign : ∀ (l k : Nat) (x : Array Value) (W : World) (K : Act → World → Prop), k < N → w.heap.size ≤ W.heap.size → X k x W → I k W → (∀ a' W', RF T w.heap.size W W' → I k W' → Ax k a' W' → K a' W') →
      assign.wpIn (Fence.wide.inRound l) 0 P (Exit.then K (fun _ _ _ => False)) { tmps := (ps.zip x).foldl (fun t (p, v) => t.setIfInBounds p v) a.tmps, defers := [] } W)
    (hbody : ∀ (l k : Nat) (a' : Act) (W : World), k < N → w.heap.size ≤ l → (∃ r, W.heap[l]? = some (.loop r)) → I k W → Ax k a' W → body.wpIn (Fence.wide.inRound l) 0 P (seqPost T w.heap.size I Ix k W) a' W)
    (hdone : ∀ (W : World), I N W → Q .normal a W)
    (hstop : ∀ (c : Code) (W : World), Ix c W → c.wpIn (Fence.wide.inRound l₀) 0 P Q a W) :
    (Code.rangeFunc g ps assign body).wpIn (Fence.wide.inRound l₀) 0 P Q a w := by
  obtain ⟨r₀, hl₀⟩ := hl₀
  refine wpIn_rangeFunc fun fn hfn => ?_
  let rec' : LoopState → Option Code → Loop := fun st pe => { state := st, pending := pe, fn, tmps := a.tmps, params := ps, assign, body, defers := r₀.defers }
  obtain ⟨D, hD⟩ : ∃ D, D = w.heap.size := ⟨_, rfl⟩
  obtain ⟨V, hV⟩ : ∃ V, V = w.alloc (.loop (rec' .ready none)) := ⟨_, rfl⟩
  have hVs : V.heap.size = D + 1 := by rw [hV, hD]; simp
  have vl : V.heap[D]? = some (.loop (rec' .ready none)) := by
    rw [hV, hD]; exact World.alloc_heap_new w _
  have vI : I 0 V := by rw [hV]; exact hI.alloc _ h0
  have vb : Below w0.heap.size w0 V := by
    rw [hV]; exact hb0.trans (((Below.refl _ w).alloc (Nat.le_refl _) _).mono hb0.size)
  have keep : ∀ {A C : World} {row : Option Nat}, A.grownBy C row → (∀ r, row = some r → V.heap.size ≤ r ∧ ∃ o : Obj, A.heap[r]? = some o ∧ o.isCells = false) → ∀ j o, j < D + 1 → A.heap[j]? = some o → C.heap[j]? = some o :=
    fun hg' hr j o hj ho => (hg'.block j (Array.getElem?_eq_some_iff.1 ho).1 (fun e => by have := (hr j e.symm).1; omega)).trans ho
  have wide : ∀ {A : World} {row : Option Nat}, (∀ r, row = some r → V.heap.size ≤ r ∧ ∃ o : Obj, A.heap[r]? = some o ∧ o.isCells = false) → (∀ r, row = some r → w.heap.size ≤ r ∧ ∃ o : Obj, A.heap[r]? = some o ∧ o.isCells = false) :=
    fun hr r e => ⟨by have := (hr r e).1; omega, (hr r e).2⟩
  refine ⟨D, [], V, { target := .fn (.func gf) lb, args := #[.func (.yield D) #[] #[]] }, V, gf, #[.func (.yield D) #[] #[]] ++ lb, V, ?_, ?_, fun _ _ => trivial, ?_, fun h => (by cases h), ?_⟩
  · rw [hV, hD]; exact run_enterLoop_inner hl₀ _ _ _ _ _
  · simp only [resolve, hg]; simp [go_sem]
  · simp [invoke, go_sem, eg]
  refine ((callsIn_wide.2 (hseq D
    (fun k W => I k W ∧ W.heap[D]? = some (.loop (rec' .ready none)))
    (fun W => ∃ c, Ix c W ∧ W.heap[D]? = some (.loop (rec' .done (some c))))
    V vb (fun s A C row hs hg' hr => ⟨hI s A C row hs.1 hg' (wide hr), keep hg' hr _ _ (by omega) hs.2⟩)
    (fun s A C row hs hg' hr => by
      obtain ⟨c, hc, hl⟩ := hs
      exact ⟨c, hIx c s A C row hc hg' (wide hr), keep hg' hr _ _ (by omega) hl⟩)
    ?_ ⟨vI, vl⟩)).mono ?_).inRound l₀
  · -- one round
    rintro k x W hkN hWs hx ⟨hi, hl⟩
    have hy := run_yield (P := P) (args := x) hl (hps k x W hx)
    refine ⟨fn, _, assign, body, hy, roundIn_of_wpIn trivial (hassign _ k x W _ hkN (by omega) hx hi ?_)⟩
    intro a' Wa hra hia haa
    have hl1 := hra.other _ _ (by omega) hl rfl
    have hlt : D < Wa.heap.size := (Array.getElem?_eq_some_iff.1 hl1).1
    refine ⟨_, run_beginRound hl1 rfl, ?_⟩
    have r1 : RF T (D + 1) W (Wa.putObj D (.loop { rec' .ready none with state := .busy })) := (hra.mono (by omega)).put hl1 rfl (by omega)
    have hl2 : (Wa.putObj D (.loop { rec' .ready none with state := .busy })).heap[D]? = some (.loop { rec' .ready none with state := .busy }) := World.putObj_heap_same hlt
    refine wpIn_mono (hbody _ k a' _ hkN (by omega) ⟨_, hl2⟩ (hI.putObj _ hia (by omega) hl1 rfl) ((hAx k a').putObj (s := ()) _ haa (by omega) hl1 rfl)) ?_
    generalize (Wa.putObj D (.loop { rec' .ready none with state := .busy })) = Wb at r1 hl2 ⊢
    have fin : ∀ (jump : Option Code) (W3 : World), RF T w.heap.size Wb W3 → ∃ W4,
        (Instr.endRound D jump).run P W3 = .ok (.bool jump.isNone) W4 ∧ W3.heap[D]? = some (.loop { rec' .ready none with state := .busy }) ∧ W4 = W3.putObj D (.loop (rec' (if jump.isNone then .ready else .done) jump)) ∧
        W4.heap[D]? = some (.loop (rec' (if jump.isNone then .ready else .done) jump)) ∧ RF T V.heap.size W W4 := fun jump W3 hr3 => by
      have hl3 := hr3.other _ _ (by omega) hl2 rfl
      refine ⟨_, run_endRound jump hl3, hl3, rfl, World.putObj_heap_same (Array.getElem?_eq_some_iff.1 hl3).1, ?_⟩
      rw [hVs]
      exact (r1.trans (hr3.mono (by omega))).put hl3 rfl (by omega)
    rintro e a3 W3 hp
    cases e with
    | normal =>
      obtain ⟨W4, h1, h2, rfl, h4, h6⟩ := fin none W3 hp.1
      exact ⟨_, _, h1, h6, .inl ⟨rfl, hI.putObj _ hp.2 (by omega) h2 rfl, h4⟩⟩
    | ret =>
      obtain ⟨W4, h1, h2, rfl, h4, h6⟩ := fin (some .ret) W3 hp.1
      exact ⟨_, _, h1, h6, .inr ⟨rfl, .ret, (hIx _).putObj (s := ()) _ hp.2 (by omega) h2 rfl, h4⟩⟩
    | exit id =>
      obtain ⟨W4, h1, h2, rfl, h4, h6⟩ := fin (some (.exit id)) W3 hp.1
      exact ⟨_, _, h1, h6, .inr ⟨rfl, .exit id, (hIx _).putObj (s := ()) _ hp.2 (by omega) h2 rfl, h4⟩⟩
    | goto t =>
      obtain ⟨W4, h1, h2, rfl, h4, h6⟩ := fin (some (.goto t)) W3 hp.1
      exact ⟨_, _, h1, h6, .inr ⟨rfl, .goto t, (hIx _).putObj (s := ()) _ hp.2 (by omega) h2 rfl, h4⟩⟩
    | panic ch => exact hp.elim
    | outgrown => exact hp.elim
  · rintro e W2 ⟨⟨v, rfl⟩, (⟨hi, hl⟩ | ⟨c, hc, hl⟩)⟩
    · exact ⟨none, _, run_endLoop hl (by simp [rec']), hdone _ (hI.putObj _ hi (by omega) hl rfl)⟩
    · exact ⟨some c, _, run_endLoop hl (by simp [rec']), hstop c _ ((hIx c).putObj (s := ()) _ hc (by omega) hl rfl)⟩

#print axioms range_seqX
#print axioms range_seqX_in
end Go
/- plan.Norm of the program. Conditions: at most two million routes; routes of at most two million stops. -/
namespace Go.Proofs
open Go.RowKit Go.Plans
attribute [local go_sem] Oper.semAt_some
theorem powns_later {W W' : World} {base : Nat} {e : TypeId} {size : Nat} {v : Value} {k : Nat} {xs : List Value} (h : W.ownsRow base e size v k xs) (hb : Below W.heap.size W W') : W'.ownsRow base e size v k xs :=
  h.kept (hb.grownBy (Nat.le_refl _)) (by cases hv : v.ownBlock <;> simp)
set_option maxRecDepth 100000 in
set_option maxHeartbeats 2000000 in
theorem Try.PlanNorm_calls (v : Value) (rr : Rts) (w : World) (hl : rr.length ≤ 2000000) (hls : ∀ l ∈ rr, l.length ≤ 2000000) (hv : HasRts w v rr) :
    Calls Try.prog 26 #[planV v] w fun e w' => ∃ u, e = .returned (planV u) ∧ HasRts w' u (normR rr) ∧ Below w.heap.size w w' := by
  have HV := Lib.hid hv
  obtain ⟨ao, cap, rfl⟩ := hv.len
  obtain ⟨n, hn⟩ : ∃ n, rr.length = n := ⟨_, rfl⟩
  rw [hn] at hl HV ⊢
  have HM := Lib.hid hls
  have HN := Lib.hid hn
  obtain ⟨i0, hi, hz0, hz1, hz2⟩ := info_parts Try.pinfo23
  have HI := Lib.hid hi
  clear hi
  have hb0 := ((Below.refl _ w).alloc (Nat.le_refl _) (.cells #[.slice ao n cap] 28)).alloc (by simp) (.cells #[.slice none 0 0] 28)
  have B0 : Boxed ((w.alloc (.cells #[.slice ao n cap] 28)).alloc (.cells #[.slice none 0 0] 28)) (w.heap.size + 1) 28 (.slice none 0 0) := Boxed.at 28 _ (by simp)
  have O0 : ((w.alloc (.cells #[.slice ao n cap] 28)).alloc (.cells #[.slice none 0 0] 28)).ownsRow (w.heap.size + 2) 23 1 (.slice none 0 0) 0 [] := ⟨by simp, .inl ⟨rfl, rfl⟩⟩
  clear hv hn hls
  unfold planV
  go_enter Try.func26, Try.ntmps26
  go_wp2
  go_loopw [3, 9] (fun u i wr => ∃ k : Nat, k ≤ n ∧ i = .int .i64 (k : Int) ∧ (∃ us, wr.ownsRow (w.heap.size + 2) 23 1 u (normR (rr.take k)).length us ∧ ValsR wr us (normR (rr.take k))) ∧ Boxed wr (w.heap.size + 1) 28 (.slice none 0 0) ∧ Below w.heap.size w wr) (fun _ i _ => n - (intOf i).toNat)
  case atStart => exact ⟨0, Nat.zero_le _, rfl, ⟨[], by simpa [normR] using O0, by simpa [normR] using ValsR.nil _⟩, B0, hb0⟩
  case round =>
    obtain ⟨k, hk, rfl, ⟨us, hO, hU⟩, hB, hW⟩ := hrel
    have hsz : w.heap.size + 2 ≤ wr.heap.size := by have := hB.lt; omega
    have HO := Lib.hid hO
    have HU := Lib.hid hU
    have HB := Lib.hid hB
    have HW := Lib.hid hW
    clear B0 hb0 O0 hO hU hB hW
    by_cases hlt : k < n
    · obtain ⟨l, hp⟩ : ∃ l, rr[k]? = some l := ⟨_, List.getElem?_eq_getElem (by have := HN.out; omega)⟩
      have hll := HM.out l (List.mem_of_getElem? hp)
      have htk : rr.take (k + 1) = rr.take k ++ [l] := by rw [List.take_add_one, hp]; rfl
      obtain ⟨b, off, cp, x, hv, hbB, hbw, hc, hx⟩ := HV.out.get hp (Nat.le_refl _) HW.out
      injection hv with h1 h2 h3
      subst h1
      have hki : (k : Int) < (n : Int) := by omega
      by_cases hz : 0 < l.length
      · have HC := Lib.hid (Try.LClone_calls x l wr hz hll hx)
        have hnr : Hid (normR (rr.take (k + 1)) = normR (rr.take k) ++ [l]) := by unfold Hid; rw [htk, normR_cons_keep hz]
        have hlen : (normR (rr.take k)).length ≤ 2000000 := by
          have h := normR_len (rr.take k)
          rw [List.length_take] at h
          omega
        obtain ⟨ax, cx, rfl⟩ := hx.len
        have hzi : (0 : Int) < (l.length : Int) := by omega
        obtain ⟨M, hMe⟩ : ∃ M, (normR (rr.take k)).length = M := ⟨_, rfl⟩
        rw [hMe] at HO hlen
        have HME := Lib.hid hMe
        have hml : M + 1 ≤ maxLen := by unfold maxLen; omega
        have hml2 : (M + 1) * 24 ≤ 140737488355328 := by omega
        clear hp htk hx h2 h3 hMe
        go_wp2_with (first
          | (go_at_call 45; (with_reducible refine HC.out.mono ?_); rintro e w2 ⟨_, rfl, ⟨gb, gc, rfl, q1, q2, q3, q4⟩, q5, hb2⟩)
          | (at_builtin; refine wpList_append_own _ rfl _ _ 26 rfl (w.heap.size + 2) 23 i0 (.slice none 0 0) 1 24 Try.underlying26 HI.out hz0 hz1 hz2 rfl (by decide) _ _ _ rfl ((powns_later HO.out hb2).alloc _) ⟨w2.heap.size, 0, none⟩ 1 1 [.slice (some ⟨gb, 0, none⟩) l.length gc] rfl rfl (cells_one w2 _ _) (by simp [Value.oneCell']) hml hml2 (by have := hb2.size; simp; omega) ?_; intro v' w1 hown' hgrow _))
        have hg : (w2.alloc (Obj.cells #[Value.slice (some ⟨gb, 0, none⟩) l.length gc] 23)).grownBy w1 u3.ownBlock := hgrow
        have O2 := powns_later HO.out hb2
        have hb4 : Below (w.heap.size + 2) w2 w1 := lgrown_below (Below.refl _ w2) (by have := hb2.size; omega) O2 hg
        have hbw1 : Below w.heap.size w w1 := (HW.out.trans (hb2.mono HW.out.size)).trans (hb4.mono (by omega))
        have hbox : Boxed w1 (w.heap.size + 1) 28 (.slice none 0 0) := (HB.out.below hb2 (by omega)).below hb4 (by omega)
        have hva := ValsR.next (HU.out.next hb2) ((Below.refl _ w2).alloc (Nat.le_refl _) (.cells #[.slice (some ⟨gb, 0, none⟩) l.length gc] 23))
        have hvb := ValsR.grown hva (by rw [HME.out]; exact O2.alloc _) hg
        have hra : RowAt (w2.alloc (Obj.cells #[Value.slice (some ⟨gb, 0, none⟩) l.length gc] 23)) (.slice (some ⟨gb, 0, none⟩) l.length gc) l := RowAt.next ⟨gb, gc, rfl, q1, q2, q3, q4⟩ ((Below.refl _ w2).alloc (Nat.le_refl _) _)
        have hrb := hra.grown hg (fun e => by
          have h1 := (World.ownsRow.lt HO.out gb e.symm).2
          have h2 := q5 gb rfl
          omega)
        refine ⟨⟨k + 1, by omega, by go_num, ⟨us ++ [.slice (some ⟨gb, 0, none⟩) l.length gc], ?_, ?_⟩, hbox, hbw1⟩, by simp [intOf]; omega⟩
        · rw [hnr.out, List.length_append, HME.out]; exact hown'
        · rw [hnr.out]; exact hvb.snoc hrb
      · have hl0 : l = [] := List.eq_nil_of_length_eq_zero (by omega)
        subst hl0
        have hnr : Hid (normR (rr.take (k + 1)) = normR (rr.take k)) := by unfold Hid; rw [htk, normR_cons_drop]
        obtain ⟨ax, cx, rfl⟩ := hx.len
        clear hp htk hx h2 h3
        go_wp2
        exact ⟨⟨k + 1, by omega, by go_num, ⟨us, by rw [hnr.out]; exact HO.out, by rw [hnr.out]; exact HU.out⟩, HB.out, HW.out⟩, by simp [intOf]; omega⟩
    · obtain rfl : k = n := by omega
      have hT : Hid (rr.take k = rr) := by unfold Hid; rw [List.take_of_length_le (by have := HN.out; omega)]
      have hc1 := HB.out.cell
      have hf1 := HB.out.frozen
      have hln := (HO.out.1)
      rw [hT.out] at HO HU
      obtain ⟨ua, uc, rfl⟩ := (rts_of_owns HO.out HU.out).len
      have hrs : HasRts (wr.setCell ⟨w.heap.size + 1, 0, none⟩ (.slice ua (normR rr).length uc)) (.slice ua (normR rr).length uc) (normR rr) :=
        rts_of_owns (us := us) (base := w.heap.size + 2) (HO.out.kept (grownBy_setCell' wr (w.heap.size + 1) _) (.inr fun e => by have := (World.ownsRow.lt HO.out _ e).1; omega)) (HU.out.box hc1 _)
      have HR := Lib.hid hrs
      have bf := Lib.hid (HB.out.set (.slice ua (normR rr).length uc)).cell
      clear hln hrs
      go_wp2
      refine bodyPost_ret (v := .agg #[.slice ua (normR rr).length uc]) (by simp [results, Try.results26, go_sem, bf.out]) rfl ?_
      exact ⟨_, rfl, HR.out, HW.out.setCell (p := ⟨w.heap.size + 1, 0, none⟩) (by simp) _⟩
#print axioms Try.PlanNorm_calls
end Go.Proofs
