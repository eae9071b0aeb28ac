/- The law FeasTold, as a contract. Conditions: what package feas answers. -/
import Derived.Test.YthgagmndefaniaaLawFeasChecksM
import Derived.Test.YthgagmndefaniaaFeasToldM
import Derived.Deep.Cut
import Derived.Deep.CutRange
namespace Go.Feas
open Go.Canon Go.Plans
/-- How often a stop stands in a plan: in all of it, or in one route. -/
def tot (B : Bool) (rt nd : Int) : Nat → Rts → Nat
  | _, [] => 0
  | i, r :: rr => (if B = true ∨ (i : Int) = rt then r.count nd else 0) + tot B rt nd (i + 1) rr
theorem tot_snoc (B : Bool) (rt nd : Int) (r : List Int) : ∀ (a : Rts) (i : Nat), tot B rt nd i (a ++ [r]) = tot B rt nd i a + if B = true ∨ ((i + a.length : Nat) : Int) = rt then r.count nd else 0
  | [], i => by simp [tot]
  | b :: a, i => by rw [List.cons_append, tot, tot, tot_snoc B rt nd r a (i + 1), List.length_cons, show i + 1 + a.length = i + (a.length + 1) by omega]; exact (Nat.add_assoc _ _ _).symm
theorem tot_take {B : Bool} {rt nd : Int} {rr : Rts} {a : Nat} {l : List Int} (h : rr[a]? = some l) : tot B rt nd 0 (rr.take (a + 1)) = tot B rt nd 0 (rr.take a) + if B = true ∨ (a : Int) = rt then l.count nd else 0 := by
  have ha := (List.getElem?_eq_some_iff.1 h).1
  have e : rr.take (a + 1) = rr.take a ++ [l] := by rw [List.take_add_one, h]; rfl
  rw [e, tot_snoc, List.length_take, Nat.min_eq_left (by omega), Nat.zero_add]
theorem tot_all (rt nd : Int) : ∀ (rr : Rts) (i : Nat), tot true rt nd i rr = countR rr nd
  | [], _ => rfl
  | r :: rr, i => by rw [tot, if_pos (.inl rfl), tot_all rt nd rr (i + 1)]; rfl
theorem tot_le (B : Bool) (rt nd : Int) : ∀ (rr : Rts) (i : Nat), tot B rt nd i rr ≤ many rr
  | [], _ => Nat.zero_le _
  | r :: rr, i => by
    have := tot_le B rt nd rr (i + 1)
    have := List.count_le_length (a := nd) (l := r)
    rw [tot, many_cons]
    split <;> omega
theorem tot_some {B : Bool} {rt nd : Int} : ∀ {rr : Rts} {i j : Nat} {r : List Int}, rr[j]? = some r → ((i + j : Nat) : Int) = rt → nd ∈ r → 1 ≤ tot B rt nd i rr
  | [], i, j, r, h, _, _ => by simp at h
  | q :: rr, i, 0, r, h, h2, h3 => by
    have e : q = r := by simpa using h
    subst e
    have := List.count_pos_iff.2 h3
    rw [tot, if_pos (.inr (by rw [Nat.add_zero] at h2; exact h2))]; omega
  | q :: rr, i, j + 1, r, h, h2, h3 => by
    have := tot_some (B := B) (rt := rt) (i := i + 1) (j := j) (by simpa using h) (by rw [← h2]; congr 1; omega) h3
    rw [tot]; omega
/-- What the law asks of each, of how often its stop stands there. -/
structure TotQ (c rt nd : Int) (T : Nat) : Prop where
  code : 1 ≤ c ∧ c ≤ 8
  route : 0 ≤ rt
  miss : c = 3 → T = 0
  twice : c = 2 → 2 ≤ T
  stands : c ≠ 3 → c ≠ 4 → ¬ (c = 6 ∧ nd = 0) → T ≠ 0
theorem told_tot {rr : Rts} {p : Wr} (h : Told rr p) : TotQ p.1 p.2.1 p.2.2 (tot (decide (p.1 ≤ 3) && decide (p.1 ≠ 1)) p.2.1 p.2.2 0 rr) := by
  refine ⟨h.code, h.route, fun e => ?_, fun e => ?_, fun e3 e4 e6 => ?_⟩
  · rw [show (decide (p.1 ≤ 3) && decide (p.1 ≠ 1)) = true by rw [e]; rfl, tot_all]; exact h.miss e
  · rw [show (decide (p.1 ≤ 3) && decide (p.1 ≠ 1)) = true by rw [e]; rfl, tot_all]; exact h.twice e
  · by_cases e2 : p.1 = 2
    · have := h.twice e2
      rw [show (decide (p.1 ≤ 3) && decide (p.1 ≠ 1)) = true by rw [e2]; rfl, tot_all]; omega
    · obtain ⟨r, h1, h2⟩ := h.stands e2 e3 e4 e6
      have hr := h.route
      have := tot_some (B := decide (p.1 ≤ 3) && decide (p.1 ≠ 1)) (rt := p.2.1) (i := 0) h1 (by omega) h2
      omega
end Go.Feas
namespace Go.Proofs
open Go.RowKit Go.Shelf Go.Canon Go.Feas Go.Plans
attribute [local go_sem] Oper.semAt_some
attribute [local go_sem ↓] Go.wp_at_zero Go.wp_at_succ
theorem HasWrs.get {W : World} {v : Value} {l : List Wr} (h : HasWrs W v l) {k : Nat} {p : Wr} (hk : l[k]? = some p) : ∃ b off cap, v = .slice (some ⟨b, off, none⟩) l.length cap ∧ b < W.heap.size ∧ W.cell? ⟨b, off + k * 3, none⟩ = some (.int .i64 p.1) ∧ W.cell? ⟨b, off + k * 3 + 1, none⟩ = some (.int .i64 p.2.1) ∧ W.cell? ⟨b, off + k * 3 + 2, none⟩ = some (.int .i64 p.2.2) := by
  rcases h with ⟨rfl, _⟩ | ⟨b, off, cap, h1, _, _, h4⟩
  · simp at hk
  · exact ⟨b, off, cap, h1, h4.1, h4.2 k p hk⟩
theorem tblock_cell {W : World} {D : Nat} {a : Array Value} {t : TypeId} (h : W.heap[D]? = some (.cells a t)) (j : Nat) : W.cell? ⟨D, j, none⟩ = a[j]? := by
  unfold World.cell?; rw [h]; rfl
/-- A wrong in a box. -/
def WBox (W : World) (D : Nat) (p : Wr) : Prop := W.heap[D]? = some (.cells #[Value.int .i64 p.1, .int .i64 p.2.1, .int .i64 p.2.2] 59)
theorem WBox.new (w : World) (a b c : Int) : WBox (w.alloc (.cells #[Value.int .i64 a, .int .i64 b, .int .i64 c] 59)) w.heap.size (a, b, c) := World.alloc_heap_new w _
theorem WBox.lt {W : World} {D : Nat} {p : Wr} (h : WBox W D p) : D < W.heap.size := (Array.getElem?_eq_some_iff.1 h).1
theorem WBox.next {W W' : World} {D : Nat} {p : Wr} (h : WBox W D p) (hb : Below W.heap.size W W') : WBox W' D p := (hb.block D h.lt).trans h
theorem WBox.cells {W : World} {D : Nat} {p : Wr} (h : WBox W D p) : W.cell? ⟨D, 0, none⟩ = some (.int .i64 p.1) ∧ W.cell? ⟨D, 1, none⟩ = some (.int .i64 p.2.1) ∧ W.cell? ⟨D, 2, none⟩ = some (.int .i64 p.2.2) := ⟨tblock_cell h 0, tblock_cell h 1, tblock_cell h 2⟩
/-- The boxes, and a list of wrongs; and one of them in a box of its own. -/
structure TdS (w : World) (x : Ins) (vn vm vp u : Value) (K : List Wr) (D : Nat) (p : Wr) (W : World) : Prop where
  q : PairS w x vn vm vp u K W
  b : WBox W D p
theorem TdS.next {w W W' : World} {x : Ins} {vn vm vp u : Value} {K : List Wr} {D : Nat} {p : Wr} (h : TdS w x vn vm vp u K D p W) (hb : Below W.heap.size W W') : TdS w x vn vm vp u K D p W' := ⟨h.q.next hb, h.b.next hb⟩
theorem TdS.drewN {w W : World} {x : Ins} {vn vm vp u : Value} {K : List Wr} {D : Nat} {p : Wr} (h : TdS w x vn vm vp u K D p W) (n : Nat) : TdS w x vn vm vp u K D p (W.drewN n) := h.next (cbelow_drewN (Below.refl _ _) n)
set_option maxRecDepth 100000 in
set_option maxHeartbeats 4000000 in
theorem Try.FeasTold_calls (H : Try.FeasC) (x : Ins) (vn vm v : Value) (rr : Rts) (w : World) (hx : HasIns w vn vm x) (hv : HasRts w v rr) :
    Calls Try.prog 9 #[insV x vn vm, planV v] w fun e w' => e = .returned (.bool true) ∧ Below w.heap.size w w' := by
  have HX := Lib.hid hx
  have HV := Lib.hid hv
  have HSH := Lib.hid fun W => Try.fshown_calls H W
  cases hq : wellQ x with
  | false =>
    have HW : Hid (∀ W, HasIns W vn vm x → Calls Try.prog 11 #[insV x vn vm] W fun e w' => e = .returned (.bool false) ∧ Below W.heap.size W w') := fun W h => hq ▸ Try.lwell_calls x vn vm W h
    obtain ⟨an, cn, rfl, _⟩ := hx.nodes.dat
    obtain ⟨am, cm, rfl, _⟩ := hx.matrix.dat
    obtain ⟨ap, cp, rfl⟩ := hv.len
    unfold insV at HW ⊢
    unfold planV
    clear hx hv hq H
    generalize x.nodes.length = L at *
    generalize x.matrix.length = M at *
    generalize rr.length = N at *
    have HS0 := Lib.hid (lwS_start w x (.slice an L cn) (.slice am M cm) (.slice ap N cp))
    go_enter Try.func9, Try.ntmps9
    go_wp2_with (first | (go_at_call 11; (with_reducible refine (HW.out _ (HX.out.next HS0.out.below)).mono ?_); rintro e w1 ⟨rfl, hb1⟩; have HS1 := Lib.hid (HS0.out.next hb1)) | (go_at_call 13; (with_reducible refine (HSH.out _).mono ?_); rintro e w2 ⟨rfl, hb2⟩))
    go_ret
    exact ⟨rfl, HS1.out.below.trans (hb2.mono HS1.out.below.size)⟩
  | true =>
    have HW : Hid (∀ W, HasIns W vn vm x → Calls Try.prog 11 #[insV x vn vm] W fun e w' => e = .returned (.bool true) ∧ Below W.heap.size W w') := fun W h => hq ▸ Try.lwell_calls x vn vm W h
    have HQ := Lib.hid (wellQ_iff.1 hq)
    cases hlo : longQ rr with
    | true =>
      have HL : Hid (∀ W, HasRts W v rr → Calls Try.prog 12 #[planV v] W fun e w' => e = .returned (.bool true) ∧ Below W.heap.size W w') := fun W h => hlo ▸ Try.feasLong_calls v rr W h
      obtain ⟨an, cn, rfl, _⟩ := hx.nodes.dat
      obtain ⟨am, cm, rfl, _⟩ := hx.matrix.dat
      obtain ⟨ap, cp, rfl⟩ := hv.len
      unfold insV at HW ⊢
      unfold planV at HL ⊢
      clear hx hv hq hlo H HQ
      generalize x.nodes.length = L at *
      generalize x.matrix.length = M at *
      generalize rr.length = N at *
      have HS0 := Lib.hid (lwS_start w x (.slice an L cn) (.slice am M cm) (.slice ap N cp))
      go_enter Try.func9, Try.ntmps9
      go_wp2_with (first | (go_at_call 11; (with_reducible refine (HW.out _ (HX.out.next HS0.out.below)).mono ?_); rintro e w1 ⟨rfl, hb1⟩; have HS1 := Lib.hid (HS0.out.next hb1); obtain ⟨c0, c1, c2, c3, c4, c5, c6, c7, hp0, -⟩ := lwS_S HS1.out) | (go_at_call 12; (with_reducible refine (HL.out _ (HV.out.next HS1.out.below)).mono ?_); rintro e w3 ⟨rfl, hb3⟩; have HS3 := Lib.hid (HS1.out.next hb3)) | (go_at_call 13; (with_reducible refine (HSH.out _).mono ?_); rintro e w2 ⟨rfl, hb2⟩))
      go_ret
      exact ⟨rfl, HS3.out.below.trans (hb2.mono HS3.out.below.size)⟩
    | false =>
      have HL : Hid (∀ W, HasRts W v rr → Calls Try.prog 12 #[planV v] W fun e w' => e = .returned (.bool false) ∧ Below W.heap.size W w') := fun W h => hlo ▸ Try.feasLong_calls v rr W h
      have HFI := Lib.hid (fine_of HQ.out.well)
      have hN2 := (longQ_fits hlo).1
      have hmn := (longQ_fits hlo).2
      have HLN := Lib.hid (longQ_fits hlo)
      have hZ1 : (checkW x rr).length ≤ 1000000 := by have := checkW_len x rr; have := HQ.out.nodes; obtain ⟨_, _⟩ := HLN.out; omega
      have HC : Hid (∀ W, HasIns W vn vm x → HasRts W v rr → Calls Try.prog 14 #[insV x vn vm, planV v] W fun e w' => ∃ v', e = .returned v' ∧ HasWrs w' v' (checkW x rr) ∧ Below W.heap.size W w') := fun W h1 h2 => H.check x vn vm v rr W h1 HFI.out (by omega) (by omega) h2
      have HTOLD := Lib.hid fun p (h : p ∈ checkW x rr) => told_tot (check_told h)
      have HAP := Lib.hid fun (k i : Nat) (a b : Wr) (h1 : (checkW x rr)[k]? = some a) (h2 : (checkW x rr)[i]? = some b) (h3 : k < i) => check_apart h1 h2 h3
      obtain ⟨an, cn, rfl, _⟩ := hx.nodes.dat
      obtain ⟨am, cm, rfl, _⟩ := hx.matrix.dat
      obtain ⟨ap, cp, rfl⟩ := hv.len
      unfold insV at HW HC ⊢
      unfold planV at HL HC ⊢
      obtain ⟨N, hN⟩ : ∃ N, rr.length = N := ⟨_, rfl⟩
      have HNN := Lib.hid hN
      rw [hN] at HV HL HC hN2 ⊢
      clear hx hv hq hlo H hN
      generalize x.nodes.length = L at *
      generalize x.matrix.length = M at *
      have HS0 := Lib.hid (lwS_start w x (.slice an L cn) (.slice am M cm) (.slice ap N cp))
      go_enter Try.func9, Try.ntmps9
      go_upto_region 3 with (first | (go_at_call 11; (with_reducible refine (HW.out _ (HX.out.next HS0.out.below)).mono ?_); rintro e w1 ⟨rfl, hb1⟩; have HS1 := Lib.hid (HS0.out.next hb1); obtain ⟨c0, c1, c2, c3, c4, c5, c6, c7, hp0, -⟩ := lwS_S HS1.out) | (go_at_call 12; (with_reducible refine (HL.out _ (HV.out.next HS1.out.below)).mono ?_); rintro e w3 ⟨rfl, hb3⟩; have HS3 := Lib.hid (HS1.out.next hb3); clear c0 c1 c2 c3 c4 c5 c6 c7 hp0; obtain ⟨c0, c1, c2, c3, c4, c5, c6, c7, hp0, -⟩ := lwS_S HS3.out) | (go_at_call 13; (with_reducible refine (HSH.out _).mono ?_); rintro e w2 ⟨rfl, hb2⟩; have HS4 := Lib.hid (HS3.out.next hb2); clear c0 c1 c2 c3 c4 c5 c6 c7 hp0; obtain ⟨c0, c1, c2, c3, c4, c5, c6, c7, hp0, -⟩ := lwS_S HS4.out))
      clear HS0 HS1 HS3 HW HL HSH hb1 hb2 hb3
      clear HQ HFI HLN
      generalize checkW x rr = K at *
      go_wp2_with (go_at_call 14; (with_reducible refine (HC.out _ (HX.out.next HS4.out.below) (HV.out.next HS4.out.below)).mono ?_); rintro e w5 ⟨v5, rfl, hv5, hb5⟩; have HP5 : Hid (PairS w x (.slice an L cn) (.slice am M cm) (.slice ap N cp) v5 K w5) := ⟨HS4.out.next hb5, hv5⟩; obtain ⟨la, lc, rfl, -⟩ := hv5.dat; clear hv5 hb5 c0 c1 c2 c3 c4 c5 c6 c7 hp0)
      obtain ⟨Z, hZ⟩ : ∃ Z, K.length = Z := ⟨_, rfl⟩
      have HZ := Lib.hid hZ
      rw [hZ] at HP5 hZ1 ⊢
      clear hZ HC HS4
      go_loopw [6] (fun i wr => ∃ k : Nat, k ≤ Z ∧ i = .int .i64 (k : Int) ∧ PairS w x (.slice an L cn) (.slice am M cm) (.slice ap N cp) (.slice la Z lc) K wr) (fun i _ => Z - (intOf i).toNat)
      case atStart => exact ⟨0, Nat.zero_le _, rfl, HP5.out⟩
      case round =>
        obtain ⟨k, hk, rfl, hS⟩ := hrel
        have HS := Lib.hid hS
        clear hS HP5
        by_cases hlt : k < Z
        · obtain ⟨⟨c, rt, nd⟩, hp⟩ : ∃ p, K[k]? = some p := ⟨_, List.getElem?_eq_getElem (by have := HZ.out; omega)⟩
          have hki : (k : Int) < (Z : Int) := by omega
          obtain ⟨bl, ol, cl, el, hbl, e0, e1, e2⟩ := HS.out.l.get hp
          rw [HZ.out] at el
          injection el with h1 h2 h3
          subst h1
          subst h3
          have HTQ := Lib.hid (HTOLD.out _ (List.mem_of_getElem? hp))
          have HKP := Lib.hid hp
          clear hp h2 hbl
          simp only at e0 e1 e2 HTQ
          go_upto_region 9 with (fail)
          clear e0 e1 e2
          obtain ⟨V, hV⟩ : ∃ V, V = wr.alloc (.cells #[Value.int .i64 c, .int .i64 rt, .int .i64 nd] 59) := ⟨_, rfl⟩
          have HT : Hid (TdS w x (.slice an L cn) (.slice am M cm) (.slice ap N cp) (.slice (some ⟨bl, ol, none⟩) Z lc) K wr.heap.size (c, rt, nd) V) := by rw [hV]; exact ⟨HS.out.next (fbelow_box wr _), WBox.new wr c rt nd⟩
          rw [← hV]
          clear hV HS
          generalize wr.heap.size = D at *
          obtain ⟨B, hB⟩ : ∃ B, (decide (c ≤ 3) && decide (c ≠ 1)) = B := ⟨_, rfl⟩
          rw [hB] at HTQ
          have HBB := Lib.hid hB
          clear hB
          go_wp2_with (fail)
          go_loopw [8, 9] (fun nn a w6 => ∃ q : Nat, q ≤ N ∧ a = .int .i64 (q : Int) ∧ nn = .int .i64 (tot B rt nd 0 (rr.take q) : Int) ∧ TdS w x (.slice an L cn) (.slice am M cm) (.slice ap N cp) (.slice (some ⟨bl, ol, none⟩) Z lc) K D (c, rt, nd) w6) (fun _ a _ => N - (intOf a).toNat)
          case atStart => exact ⟨0, Nat.zero_le _, rfl, rfl, HT.out⟩
          case round =>
            obtain ⟨a, ha, rfl, rfl, hT2⟩ := hrel
            have HT2 := Lib.hid hT2
            have hpc := hT2.q.b.pbox.1
            clear hT2 HT
            by_cases hlt2 : a < N
            · obtain ⟨l, hl⟩ : ∃ l, rr[a]? = some l := ⟨_, List.getElem?_eq_getElem (by have := HNN.out; omega)⟩
              have hai : (a : Int) < (N : Int) := by omega
              have HTT := Lib.hid (tot_take (B := B) (rt := rt) (nd := nd) hl)
              have hmt := many_take hl
              have hmle := many_take_le rr (a + 1)
              have htl := tot_le B rt nd (rr.take a) 0
              obtain ⟨b4, off4, cap4, u4, e4, _, hbw4, hc4, hu4⟩ := HV.out.get hl (Nat.le_refl _) (Below.refl _ w)
              rw [HNN.out] at e4
              injection e4 with h1 h2 h3
              subst h1
              subst h3
              have HU := Lib.hid hu4
              obtain ⟨a5, k5, rfl⟩ := hu4.len
              have hc4' := (HT2.out.q.b.below.cell (p := ⟨b4, off4 + a, none⟩) hbw4).trans hc4
              have HC4 := Lib.hid hc4
              obtain ⟨M5, hM5⟩ : ∃ M5, l.length = M5 := ⟨_, rfl⟩
              rw [hM5] at hmt HU HC4
              rw [hM5] at hc4'
              have HM5 := Lib.hid hM5
              clear hl h2 hu4 hc4 hM5
              obtain ⟨t0, ht0⟩ : ∃ t0, tot B rt nd 0 (rr.take a) = t0 := ⟨_, rfl⟩
              rw [ht0] at HTT htl ⊢
              have hB0 : t0 + M5 ≤ 300 := by omega
              clear ht0 hmt hmle htl
              go_wp2_with (fail)
              go_loopw [8, 10] (fun nn j w7 => ∃ q : Nat, q ≤ M5 ∧ j = .int .i64 (q : Int) ∧ nn = .int .i64 ((t0 + (if B = true ∨ (a : Int) = rt then (l.take q).count nd else 0) : Nat) : Int) ∧ TdS w x (.slice an L cn) (.slice am M cm) (.slice (some ⟨b4, off4, none⟩) N cp) (.slice (some ⟨bl, ol, none⟩) Z lc) K D (c, rt, nd) w7) (fun _ j _ => M5 - (intOf j).toNat)
              case atStart => exact ⟨0, Nat.zero_le _, rfl, by simp, HT2.out⟩
              case round =>
                obtain ⟨q, hq, rfl, rfl, hT3⟩ := hrel
                have HT3 := Lib.hid hT3
                have hpc3 := hT3.q.b.pbox.1
                have hc43 := (hT3.q.b.below.cell (p := ⟨b4, off4 + a, none⟩) hbw4).trans HC4.out
                obtain ⟨d0, d1, d2⟩ := hT3.b.cells
                simp only at d0 d1 d2
                clear hT3 hpc hc4' HT2
                by_cases hlt3 : q < M5
                · obtain ⟨s, hs⟩ : ∃ s, l[q]? = some s := ⟨_, List.getElem?_eq_getElem (by have := HM5.out; omega)⟩
                  have hqi : (q : Int) < (M5 : Int) := by omega
                  obtain ⟨b7, off7, cap7, e7, _, _, hbw7, hc7⟩ := HU.out.atc hs
                  rw [HM5.out] at e7
                  injection e7 with h1 h2 h3
                  subst h1
                  subst h3
                  have hc7' := (HT3.out.q.b.below.cell (p := ⟨b7, off7 + q, none⟩) hbw7).trans hc7
                  have hcm := count_more (c := nd) hs
                  have hcl := List.count_le_length (a := nd) (l := l.take q)
                  rw [List.length_take] at hcl
                  clear hs h2 hc7
                  obtain ⟨T, hT⟩ : ∃ T, t0 + (if B = true ∨ (a : Int) = rt then (l.take q).count nd else 0) = T := ⟨_, rfl⟩
                  have hT300 : T ≤ 300 := by rw [← hT]; split <;> omega
                  have HNX0 : Hid (t0 + (if B = true ∨ (a : Int) = rt then (l.take (q + 1)).count nd else 0) = if s = nd ∧ (B = true ∨ (a : Int) = rt) then T + 1 else T) := by
                    unfold Hid
                    rw [hcm, ← hT]
                    by_cases e1 : B = true ∨ (a : Int) = rt
                    · rw [if_pos e1, if_pos e1]
                      by_cases e2 : s = nd
                      · rw [if_pos e2, if_pos ⟨e2, e1⟩]; omega
                      · rw [if_neg e2, if_neg (fun e : _ ∧ _ => e2 e.1)]; omega
                    · rw [if_neg e1, if_neg e1, if_neg (fun e : _ ∧ _ => e1 e.2)]
                  rw [hT]
                  clear hcm hcl hT
                  by_cases g1 : s = nd
                  · subst g1
                    by_cases g2 : c ≤ 3
                    · by_cases g3 : c = 1
                      · have hBf : Hid (B = false) := by have h := HBB.out; rw [g3] at h; exact h.symm
                        have k3 : (c != 1) = false := by rw [g3]; rfl
                        by_cases g4 : (a : Int) = rt
                        · have HNX : Hid (t0 + (if B = true ∨ (a : Int) = rt then (l.take (q + 1)).count s else 0) = T + 1) := by unfold Hid; rw [HNX0.out, if_pos ⟨rfl, .inr g4⟩]
                          have k4 : ((a : Int) == rt) = true := beq_iff_eq.2 g4
                          clear HNX0 g3 g4 hBf
                          clear HAP HTOLD HTQ HTT HU HKP HBB
                          go_wp2_with (fail)
                          go_quiet (fail)
                          go_wp2
                          go_roundw
                          case rel => exact ⟨q + 1, by omega, by go_num, by rw [HNX.out]; go_num, HT3.out.drewN _⟩
                          case measure => simp [intOf]; omega
                        · have HNX : Hid (t0 + (if B = true ∨ (a : Int) = rt then (l.take (q + 1)).count s else 0) = T) := by unfold Hid; rw [HNX0.out, if_neg (fun e : _ ∧ _ => e.2.elim (fun e => by rw [hBf.out] at e; cases e) g4)]
                          have k4 : ((a : Int) == rt) = false := beq_eq_false_iff_ne.2 g4
                          clear HNX0 g3 g4 hBf
                          clear HAP HTOLD HTQ HTT HU HKP HBB
                          go_wp2_with (fail)
                          go_quiet (fail)
                          go_wp2
                          go_roundw
                          case rel => exact ⟨q + 1, by omega, by go_num, by rw [HNX.out], HT3.out.drewN _⟩
                          case measure => simp [intOf]; omega
                      · have hBt : Hid (B = true) := by rw [← HBB.out, decide_eq_true g2, decide_eq_true g3]; rfl
                        have k3 : (c != 1) = true := bne_iff_ne.2 g3
                        have HNX : Hid (t0 + (if B = true ∨ (a : Int) = rt then (l.take (q + 1)).count s else 0) = T + 1) := by unfold Hid; rw [HNX0.out, if_pos ⟨rfl, .inl hBt.out⟩]
                        clear HNX0 g3 hBt
                        clear HAP HTOLD HTQ HTT HU HKP HBB
                        go_wp2_with (fail)
                        go_quiet (fail)
                        go_wp2
                        go_roundw
                        case rel => exact ⟨q + 1, by omega, by go_num, by rw [HNX.out]; go_num, HT3.out.drewN _⟩
                        case measure => simp [intOf]; omega
                    · have hBf : Hid (B = false) := by rw [← HBB.out, decide_eq_false g2]; rfl
                      have kd : decide (c ≤ 3) = false := decide_eq_false g2
                      clear g2
                      by_cases g4 : (a : Int) = rt
                      · have HNX : Hid (t0 + (if B = true ∨ (a : Int) = rt then (l.take (q + 1)).count s else 0) = T + 1) := by unfold Hid; rw [HNX0.out, if_pos ⟨rfl, .inr g4⟩]
                        have k4 : ((a : Int) == rt) = true := beq_iff_eq.2 g4
                        clear HNX0 g4 hBf
                        clear HAP HTOLD HTQ HTT HU HKP HBB
                        go_wp2_with (fail)
                        go_quiet (fail)
                        go_wp2
                        go_roundw
                        case rel => exact ⟨q + 1, by omega, by go_num, by rw [HNX.out]; go_num, HT3.out.drewN _⟩
                        case measure => simp [intOf]; omega
                      · have HNX : Hid (t0 + (if B = true ∨ (a : Int) = rt then (l.take (q + 1)).count s else 0) = T) := by unfold Hid; rw [HNX0.out, if_neg (fun e : _ ∧ _ => e.2.elim (fun e => by rw [hBf.out] at e; cases e) g4)]
                        have k4 : ((a : Int) == rt) = false := beq_eq_false_iff_ne.2 g4
                        clear HNX0 g4 hBf
                        clear HAP HTOLD HTQ HTT HU HKP HBB
                        go_wp2_with (fail)
                        go_quiet (fail)
                        go_wp2
                        go_roundw
                        case rel => exact ⟨q + 1, by omega, by go_num, by rw [HNX.out], HT3.out.drewN _⟩
                        case measure => simp [intOf]; omega
                  · have k1 : (s == nd) = false := beq_eq_false_iff_ne.2 g1
                    have HNX : Hid (t0 + (if B = true ∨ (a : Int) = rt then (l.take (q + 1)).count nd else 0) = T) := by unfold Hid; rw [HNX0.out, if_neg (fun e : _ ∧ _ => g1 e.1)]
                    clear HNX0 g1
                    clear HAP HTOLD HTQ HTT HU HKP HBB
                    go_wp2_with (fail)
                    go_quiet (fail)
                    go_wp2
                    go_roundw
                    case rel => exact ⟨q + 1, by omega, by go_num, by rw [HNX.out], HT3.out.drewN _⟩
                    case measure => simp [intOf]; omega
                · obtain rfl : q = M5 := by omega
                  have HNX : Hid (tot B rt nd 0 (rr.take (a + 1)) = t0 + (if B = true ∨ (a : Int) = rt then (l.take q).count nd else 0)) := by unfold Hid; rw [HTT.out, List.take_of_length_le (by rw [HM5.out]; exact Nat.le_refl _)]
                  go_wp2
                  go_roundw
                  case rel => exact ⟨a + 1, by omega, by go_num, by rw [HNX.out], HT3.out⟩
                  case measure => simp [intOf]; omega
            · obtain rfl : a = N := by omega
              have e : rr.take a = rr := List.take_of_length_le (by rw [HNN.out]; exact Nat.le_refl _)
              rw [e]
              have htl := tot_le B rt nd rr 0
              generalize tot B rt nd 0 rr = T at *
              clear e
              obtain ⟨d0, d1, d2⟩ := HT2.out.b.cells
              simp only at d0 d1 d2
              obtain ⟨W7, hW7⟩ : ∃ W7, W7 = wr := ⟨_, rfl⟩
              have HT7 : Hid (TdS w x (.slice an L cn) (.slice am M cm) (.slice ap a cp) (.slice (some ⟨bl, ol, none⟩) Z lc) K D (c, rt, nd) W7) := by rw [hW7]; exact HT2.out
              rw [← hW7] at hpc d0 d1 d2 ⊢
              have hT0 := Int.natCast_nonneg T
              have HRT0 := Lib.hid HTQ.out.route
              clear hW7 HT2 HBB HTOLD
              go_upto_region 17 with (fail)
              go_cut [11] from 84 to 91 (fun bk wx => bk = .bool (decide (c = 6) && decide (nd = 0)) ∧ W7 = wx)
              case first =>
                by_cases g6 : c = 6
                · have k6 : (c == 6) = true := beq_iff_eq.2 g6
                  by_cases g0 : nd = 0
                  · have k0 : (nd == 0) = true := beq_iff_eq.2 g0
                    have e : Hid ((decide (c = 6) && decide (nd = 0)) = true) := by unfold Hid; rw [decide_eq_true g6, decide_eq_true g0]; rfl
                    clear g6 g0 HTQ
                    go_wp2
                    go_meet
                    exact ⟨by rw [e.out], rfl⟩
                  · have k0 : (nd == 0) = false := beq_eq_false_iff_ne.2 g0
                    have e : Hid ((decide (c = 6) && decide (nd = 0)) = false) := by unfold Hid; rw [decide_eq_false g0, Bool.and_false]
                    clear g6 g0 HTQ
                    go_wp2
                    go_meet
                    exact ⟨by rw [e.out], rfl⟩
                · have k6 : (c == 6) = false := beq_eq_false_iff_ne.2 g6
                  have e : Hid ((decide (c = 6) && decide (nd = 0)) = false) := by unfold Hid; rw [decide_eq_false g6]; rfl
                  clear g6 HTQ
                  go_wp2
                  go_meet
                  exact ⟨by rw [e.out], rfl⟩
              case rest =>
              obtain ⟨rfl, rfl⟩ := hcut
              go_upto_region 18 with (fail)
              obtain ⟨bk, hbk⟩ : ∃ bk, (decide (c = 6) && decide (nd = 0)) = bk := ⟨_, rfl⟩
              rw [hbk]
              have HBK := Lib.hid hbk
              clear hbk
              go_cut [140] from 92 to 140 (fun t wx => t = .bool false ∧ W7 = wx)
              case first =>
                have hrt : ¬ rt < 0 := by have := HRT0.out; omega
                have hc1 : ¬ c < 1 := by have := HTQ.out.code; omega
                have hc8 : ¬ (8 : Int) < c := by have := HTQ.out.code; omega
                by_cases g2 : c = 2
                · have j2 : (c == 2) = true := beq_iff_eq.2 g2
                  have j3 : (c == 3) = false := beq_eq_false_iff_ne.2 (by omega)
                  have i3 : (c != 3) = true := bne_iff_ne.2 (by omega)
                  have i4 : (c != 4) = true := bne_iff_ne.2 (by omega)
                  have k1 : ((T : Int) == 0) = false := beq_eq_false_iff_ne.2 (by have := HTQ.out.twice g2; omega)
                  have k2 : ¬ (T : Int) < 2 := by have := HTQ.out.twice g2; omega
                  have hb : bk = false := by rw [← HBK.out, decide_eq_false (by omega)]; rfl
                  subst hb
                  clear g2 HTQ HBK HRT0
                  go_wp2
                  go_meet
                  exact ⟨rfl, rfl⟩
                · have j2 : (c == 2) = false := beq_eq_false_iff_ne.2 g2
                  by_cases g3 : c = 3
                  · have j3 : (c == 3) = true := beq_iff_eq.2 g3
                    have i3 : (c != 3) = false := by rw [g3]; rfl
                    obtain rfl : T = 0 := HTQ.out.miss g3
                    have hb : bk = false := by rw [← HBK.out, decide_eq_false (by omega)]; rfl
                    subst hb
                    clear g2 g3 HTQ HBK HRT0
                    go_wp2
                    go_meet
                    exact ⟨rfl, rfl⟩
                  · have j3 : (c == 3) = false := beq_eq_false_iff_ne.2 g3
                    have i3 : (c != 3) = true := bne_iff_ne.2 g3
                    by_cases g4 : c = 4
                    · have i4 : (c != 4) = false := by rw [g4]; rfl
                      have hb : bk = false := by rw [← HBK.out, decide_eq_false (by omega)]; rfl
                      subst hb
                      clear g2 g3 g4 HTQ HBK HRT0
                      go_wp2
                      go_meet
                      exact ⟨rfl, rfl⟩
                    · have i4 : (c != 4) = true := bne_iff_ne.2 g4
                      cases bk with
                      | true =>
                        clear g2 g3 g4 HTQ HBK HRT0
                        go_wp2
                        go_meet
                        exact ⟨rfl, rfl⟩
                      | false =>
                        have k1 : ((T : Int) == 0) = false := beq_eq_false_iff_ne.2 (by
                          have h := HTQ.out.stands g3 g4 (fun e => by have h := HBK.out; rw [decide_eq_true e.1, decide_eq_true e.2] at h; cases h)
                          omega)
                        clear g2 g3 g4 HTQ HBK HRT0
                        go_wp2
                        go_meet
                        exact ⟨rfl, rfl⟩
              case rest =>
              obtain ⟨rfl, rfl⟩ := hcut
              clear HTQ hT0 HRT0 HBK hpc d0 d1 d2
              go_wp2_with (fail)
              go_loopw [12] (fun m w8 => ∃ q : Nat, q ≤ k ∧ m = .int .i64 (q : Int) ∧ TdS w x (.slice an L cn) (.slice am M cm) (.slice ap a cp) (.slice (some ⟨bl, ol, none⟩) Z lc) K D (c, rt, nd) w8) (fun m _ => k - (intOf m).toNat)
              case atStart => exact ⟨0, Nat.zero_le _, rfl, HT7.out⟩
              case round =>
                obtain ⟨m, hm, rfl, hT8⟩ := hrel
                have HT8 := Lib.hid hT8
                obtain ⟨d0, d1, d2⟩ := hT8.b.cells
                simp only at d0 d1 d2
                clear HT7
                by_cases hlt4 : m < k
                · obtain ⟨⟨c2, r2, n2⟩, hp2⟩ : ∃ p, K[m]? = some p := ⟨_, List.getElem?_eq_getElem (by have := HZ.out; omega)⟩
                  have hmi : (m : Int) < (k : Int) := by omega
                  have hmz : (m : Int) < (Z : Int) := by omega
                  obtain ⟨b2, o2, l2, el, hbl, e0, e1, e2⟩ := hT8.q.l.get hp2
                  rw [HZ.out] at el
                  injection el with h1 h2 h3
                  injection h1 with h1
                  injection h1 with h4 h5
                  subst h4
                  subst h5
                  subst h3
                  have HAQ := Lib.hid (HAP.out m k _ _ hp2 HKP.out hlt4)
                  unfold Apart at HAQ
                  simp only at e0 e1 e2 HAQ
                  clear hp2 h2 hbl hT8
                  by_cases g1 : c2 = 1
                  · have g1' : c = 1 := HAQ.out.2.1 g1
                    have f1 : (c2 == 1) = true := beq_iff_eq.2 g1
                    have f1' : (c == 1) = true := beq_iff_eq.2 g1'
                    have f5 : (c == 5) = false := beq_eq_false_iff_ne.2 (by omega)
                    have f6 : (c == 6) = false := beq_eq_false_iff_ne.2 (by omega)
                    have f4 : (c == 4) = false := beq_eq_false_iff_ne.2 (by omega)
                    have f0 : (c2 == c) = true := beq_iff_eq.2 (by omega)
                    by_cases g2 : r2 = rt
                    · have f2 : (r2 == rt) = true := beq_iff_eq.2 g2
                      clear g1 g1' g2 HAQ HAP HKP
                      go_wp2_with (fail)
                      go_quiet (fail)
                      go_wp2
                      go_roundw
                      case rel => exact ⟨m + 1, by omega, by go_num, HT8.out.drewN _⟩
                      case measure => simp [intOf]; omega
                    · have f2 : (r2 == rt) = false := beq_eq_false_iff_ne.2 g2
                      clear g1 g1' g2 HAQ HAP HKP
                      go_wp2_with (fail)
                      go_quiet (fail)
                      go_wp2
                      go_roundw
                      case rel => exact ⟨m + 1, by omega, by go_num, HT8.out.drewN _⟩
                      case measure => simp [intOf]; omega
                  · have g1' : c ≠ 1 := fun e => g1 (HAQ.out.2.2 e)
                    have f1 : (c2 == 1) = false := beq_eq_false_iff_ne.2 g1
                    have f1' : (c == 1) = false := beq_eq_false_iff_ne.2 g1'
                    by_cases g0 : c2 = c
                    · have f0 : (c2 == c) = true := beq_iff_eq.2 g0
                      by_cases g2 : r2 = rt
                      · have f2 : (r2 == rt) = true := beq_iff_eq.2 g2
                        have hh := HAQ.out.1 g0 g2
                        have f5 : (c == 5) = false := beq_eq_false_iff_ne.2 (by omega)
                        have f6 : (c == 6) = false := beq_eq_false_iff_ne.2 (by omega)
                        have f4 : (c == 4) = false := beq_eq_false_iff_ne.2 (by omega)
                        clear g1 g1' g2 g0 hh HAQ HAP HKP
                        go_wp2_with (fail)
                        go_quiet (fail)
                        go_wp2
                        go_roundw
                        case rel => exact ⟨m + 1, by omega, by go_num, HT8.out.drewN _⟩
                        case measure => simp [intOf]; omega
                      · have f2 : (r2 == rt) = false := beq_eq_false_iff_ne.2 g2
                        clear g1 g1' g2 g0 HAQ HAP HKP
                        go_wp2_with (fail)
                        go_quiet (fail)
                        go_wp2
                        go_roundw
                        case rel => exact ⟨m + 1, by omega, by go_num, HT8.out.drewN _⟩
                        case measure => simp [intOf]; omega
                    · have f0 : (c2 == c) = false := beq_eq_false_iff_ne.2 g0
                      clear g1 g1' g0 HAQ HAP HKP
                      go_wp2_with (fail)
                      go_quiet (fail)
                      go_wp2
                      go_roundw
                      case rel => exact ⟨m + 1, by omega, by go_num, HT8.out.drewN _⟩
                      case measure => simp [intOf]; omega
                · obtain rfl : m = k := by omega
                  clear hT8
                  go_wp2
                  go_roundw
                  case rel => exact ⟨m + 1, by omega, by go_num, HT8.out.q⟩
                  case measure => simp [intOf]; omega
        · obtain rfl : k = Z := by omega
          go_wp2
          go_ret
          exact ⟨rfl, HS.out.b.below⟩
end Go.Proofs
