/- The law ExpressRises, as a contract. Conditions: what package express answers. -/
import Derived.Test.YtebkmcafahkdbaaLawExprTellsM
import Derived.BigQuiet
import Derived.IntWalk
namespace Go.Proofs
open Go.RowKit Go.Shelf Go.Canon Go.Expr
attribute [local go_sem] Oper.semAt_some
theorem HasInts.atx {W : World} {v : Value} {l : List Int} (h : HasInts W v l) {k : Nat} {s : Int} (hk : l[k]? = some s) : ∃ b off cap, v = .slice (some ⟨b, off, none⟩) l.length cap ∧ b < W.heap.size ∧ ∀ j y, l[j]? = some y → W.cell? ⟨b, off + j, none⟩ = some (.int .i64 y) := by
  rcases h with ⟨rfl, _⟩ | ⟨b, off, cap, h1, h2, h3, h4⟩
  · simp at hk
  · exact ⟨b, off, cap, h1, h4.1, h4.2⟩
set_option maxRecDepth 100000 in
set_option maxHeartbeats 4000000 in
theorem Try.ExpressRises_calls (H : Try.ExprC) (f : Int) (x : Ins) (vn vm : Value) (w : World) (hx : HasIns w vn vm x) :
    Calls Try.prog 6 #[.int .i64 f, insV x vn vm] w fun e w' => e = .returned (.bool true) ∧ Below w.heap.size w w' := by
  have HX := Lib.hid hx
  have HSH := Lib.hid fun W => Try.shown12_calls H W
  cases hq : longE x with
  | true =>
    have HW : Hid (∀ W, HasIns W vn vm x → Calls Try.prog 7 #[insV x vn vm] W fun e w' => e = .returned (.bool true) ∧ Below W.heap.size W w') := fun W h => hq ▸ Try.long12_calls x vn vm W h
    obtain ⟨an, cn, rfl, _⟩ := hx.nodes.dat
    obtain ⟨am, cm, rfl, _⟩ := hx.matrix.dat
    unfold insV at HW ⊢
    clear hx hq H
    generalize x.nodes.length = L at *
    generalize x.matrix.length = M at *
    have HS0 := Lib.hid (ExS.new w x (.slice an L cn) (.slice am M cm))
    obtain ⟨c0, c1, c2, c3, c4, c5, c6, c7⟩ := HS0.out.box.cells
    go_enter Try.func6, Try.ntmps6
    go_wp2_with (first | (go_at_call 7; (with_reducible refine (HW.out _ (HX.out.next HS0.out.below)).mono ?_); rintro e w1 ⟨rfl, hb1⟩; have HS1 := Lib.hid (HS0.out.next hb1)) | (go_at_call 8; (with_reducible refine (HSH.out _).mono ?_); rintro e w2 ⟨rfl, hb2⟩))
    go_ret
    exact ⟨rfl, HS1.out.below.trans (hb2.mono HS1.out.below.size)⟩
  | false =>
    have HW : Hid (∀ W, HasIns W vn vm x → Calls Try.prog 7 #[insV x vn vm] W fun e w' => e = .returned (.bool false) ∧ Below W.heap.size W w') := fun W h => hq ▸ Try.long12_calls x vn vm W h
    have hn := (longE_no hq).1
    have HLK := Lib.hid fun W h => H.lacks f x vn vm W h hn
    have hll : (lacksL f x).length ≤ 13 := lacksN_len f x 13
    have HALL := Lib.hid (lacks_all (f := f) (x := x))
    have HNO : Hid (3 < f → f ≤ 5 → (lacksL f x).length = 0) := fun h h5 => by rw [lacks_none h h5]; rfl
    have HRS := Lib.hid (lacksN_rises (f := f) (x := x) 13)
    have HME : Hid (∀ s, s ∈ lacksL f x → 1 ≤ s ∧ s ≤ 13) := fun s hs => ⟨(lacksL_mem.1 hs).1, (lacksL_mem.1 hs).2.1⟩
    obtain ⟨an, cn, rfl, _⟩ := hx.nodes.dat
    obtain ⟨am, cm, rfl, _⟩ := hx.matrix.dat
    unfold insV at HW HLK ⊢
    clear hx hq H
    generalize x.nodes.length = L at *
    generalize x.matrix.length = M at *
    have HRS2 : Hid ((lacksL f x).Pairwise (· < ·)) := HRS.out
    clear HRS
    generalize lacksL f x = K at *
    obtain ⟨n, hN⟩ : ∃ n, K.length = n := ⟨_, rfl⟩
    have HN := Lib.hid hN
    rw [hN] at HALL HNO hll
    clear hN
    have HS0 := Lib.hid (ExS.new w x (.slice an L cn) (.slice am M cm))
    obtain ⟨c0, c1, c2, c3, c4, c5, c6, c7⟩ := HS0.out.box.cells
    go_enter Try.func6, Try.ntmps6
    go_upto_region 3 with (first | (go_at_call 7; (with_reducible refine (HW.out _ (HX.out.next HS0.out.below)).mono ?_); rintro e w1 ⟨rfl, hb1⟩; have HS1 := Lib.hid (HS0.out.next hb1)) | (go_at_call 8; (with_reducible refine (HSH.out _).mono ?_); rintro e w2 ⟨rfl, hb2⟩; have HS2 := Lib.hid (HS1.out.next hb2); clear c0 c1 c2 c3 c4 c5 c6 c7; obtain ⟨c0, c1, c2, c3, c4, c5, c6, c7⟩ := HS2.out.box.cells))
    go_upto_region 4 with (go_at_call 9; (with_reducible refine (HLK.out _ (HX.out.next HS2.out.below)).mono ?_); rintro e w5 ⟨v5, rfl, hv5, hb5⟩; have HS5 := Lib.hid (HS2.out.next hb5); have HV5 := Lib.hid hv5; obtain ⟨a5, k5, rfl⟩ := hv5.len; clear hv5 hb5 c0 c1 c2 c3 c4 c5 c6 c7; obtain ⟨c0, c1, c2, c3, c4, c5, c6, c7⟩ := HS5.out.box.cells)
    rw [HN.out] at HV5 ⊢
    clear c0 c1 c2 c3 c4 c5 c6 c7
    go_wp2_with (fail)
    go_loopw [6] (fun i wr => ∃ k : Nat, k ≤ n ∧ i = .int .i64 (k : Int) ∧ HasInts wr (.slice a5 n k5) K ∧ ExS w x (.slice an L cn) (.slice am M cm) wr) (fun i _ => n - (intOf i).toNat)
    case atStart => exact ⟨0, Nat.zero_le _, rfl, HV5.out, HS5.out⟩
    case round =>
      obtain ⟨k, hk, rfl, hV, hS⟩ := hrel
      have HV := Lib.hid hV
      have HS := Lib.hid hS
      clear hV hS HV5 HS5
      by_cases hlt : k < n
      · have hki : (k : Int) < (n : Int) := by omega
        obtain ⟨s, hs⟩ : ∃ s, K[k]? = some s := ⟨_, List.getElem?_eq_getElem (by have := HN.out; omega)⟩
        obtain ⟨b, off, cap, e, hbw, hce⟩ := HV.out.atx hs
        rw [HN.out] at e
        injection e with h1 h2 h3
        subst h1
        subst h3
        clear h2
        have hm := HME.out s (List.mem_of_getElem? hs)
        have hcs := hce k s hs
        have q1 : decide (s < 1) = false := decide_eq_false (by omega)
        have q2 : decide (13 < s) = false := decide_eq_false (by omega)
        have HNX : Hid (∀ q, HasInts (wr.drewN q) (.slice (some ⟨b, off, none⟩) n k5) K ∧ ExS w x (.slice an L cn) (.slice am M cm) (wr.drewN q)) := fun q => ⟨HV.out.next (cbelow_drewN (Below.refl _ _) q), HS.out.next (cbelow_drewN (Below.refl _ _) q)⟩
        rcases k with _ | m
        · have hcs0 : wr.cell? ⟨b, off, none⟩ = some (.int .i64 s) := hcs
          clear hs hm hce hcs hk HX HSH HW HLK HS0 HS1 HS2 HV HS HRS2 HALL HNO hb1 hb2
          have hn0 : (0 : Int) < (n : Int) := hki
          clear hki
          go_wp2_with (fail)
          go_quiet (fail)
          go_wp2
          go_roundw
          case rel => exact ⟨1, hlt, rfl, HNX.out _⟩
          case measure => simp [intOf]; omega
        · obtain ⟨p, hp⟩ : ∃ p, K[m]? = some p := ⟨_, List.getElem?_eq_getElem (by have := HN.out; omega)⟩
          have hcp := hce m p hp
          have hps : p < s := by
            obtain ⟨hi, ei⟩ := List.getElem?_eq_some_iff.1 hp
            obtain ⟨hj, ej⟩ := List.getElem?_eq_some_iff.1 hs
            have := (List.pairwise_iff_getElem.1 HRS2.out) m (m + 1) hi hj (by omega)
            rw [ei, ej] at this; exact this
          have q3 : decide (s ≤ p) = false := decide_eq_false (by omega)
          have hmn : (m : Int) + 1 < (n : Int) := by omega
          have hmn2 : (m : Int) < (n : Int) := by omega
          have hk9 : (m : Int) + 1 ≤ 13 := by omega
          clear hs hm hce hp hps hk HX HSH HW HLK HS0 HS1 HS2 HV HS HRS2 HALL HNO hb1 hb2 hki
          have hci : ((m + 1 : Nat) : Int) = (m : Int) + 1 := by omega
          rw [hci]
          clear hci
          have hw1 : IntKind.i64.wrap ((m : Int) + 1 - 1) = (m : Int) := by rw [show (m : Int) + 1 - 1 = m by omega]; exact IntWalk.i64_in _ (by omega)
          have hd0 : decide ((0 : Int) < (m : Int) + 1) = true := decide_eq_true (by omega)
          have hp1 : (0 : Int) < (m : Int) + 1 := by omega
          go_wp2_with (fail)
          go_quiet (fail)
          clear hw1 hd0
          go_wp2
          go_roundw
          case rel => exact ⟨m + 2, by omega, by go_num, HNX.out _⟩
          case measure => simp [intOf]; omega
      · obtain rfl : k = n := by omega
        have HB := Lib.hid HS.out.below
        have h13 := HALL.out
        have h00 := HNO.out
        clear HX HSH HW HLK HS0 HS1 HS2 HV HS HRS2 HALL HNO hb1 hb2 HME HN
        by_cases f0 : f < 1
        · have q1 : decide (1 ≤ f) = false := decide_eq_false (by omega)
          obtain rfl : k = 13 := h13.2 (.inl f0)
          have q4 : (f != 4) = true := bne_iff_ne.2 (by omega)
          have q5 : (f != 5) = true := bne_iff_ne.2 (by omega)
          clear h13 h00 f0
          go_wp2
          go_ret
          exact ⟨rfl, HB.out⟩
        · by_cases f5 : 5 < f
          · have q1 : decide (1 ≤ f) = true := decide_eq_true (by omega)
            have q2 : decide (f ≤ 5) = false := decide_eq_false (by omega)
            obtain rfl : k = 13 := h13.2 (.inr f5)
            have q4 : (f != 4) = true := bne_iff_ne.2 (by omega)
            have q5 : (f != 5) = true := bne_iff_ne.2 (by omega)
            clear h13 h00 f0 f5
            go_wp2
            go_ret
            exact ⟨rfl, HB.out⟩
          · have q1 : decide (1 ≤ f) = true := decide_eq_true (by omega)
            have q2 : decide (f ≤ 5) = true := decide_eq_true (by omega)
            by_cases f3 : 3 < f
            · obtain rfl : k = 0 := h00 f3 (by omega)
              by_cases f4 : f = 4
              · subst f4
                clear h13 h00 f0 f5 f3 q1 q2
                go_wp2
                go_ret
                exact ⟨rfl, HB.out⟩
              · obtain rfl : f = 5 := by omega
                clear h13 h00 f0 f5 f3 q1 q2
                go_wp2
                go_ret
                exact ⟨rfl, HB.out⟩
            · have h14 : k ≠ 13 := fun e => by have := h13.1 e; omega
              have q3 : ((k : Int) == 13) = false := beq_eq_false_iff_ne.2 (by omega)
              have q4 : (f != 4) = true := bne_iff_ne.2 (by omega)
              have q5 : (f != 5) = true := bne_iff_ne.2 (by omega)
              clear h13 h00 f0 f5 f3 h14
              go_wp2
              go_ret
              exact ⟨rfl, HB.out⟩
end Go.Proofs
