/- The law DiagHeld, as a contract. Conditions: a slice that came in; the integers that an int holds; the table of powers of ten holds what the card lays. -/
import Derived.Test.YtgapefkoemofcaaDoorLawPuts
import Derived.Test.YtgapefkoemofcaaDoorKept
namespace Go.Proofs
open Go.RowKit Go.Dg
attribute [local go_sem] Oper.semAt_some
attribute [local go_sem ↓] Go.wp_at_zero Go.wp_at_succ
theorem HasDiags.alloc {W : World} {v : Value} {l : List Mk} (h : HasDiags W v l) (o : Obj) : HasDiags (W.alloc o) v l := h.next ((Below.refl _ _).alloc (Nat.le_refl _) o)
theorem HasDiags.read {W : World} {b off n cap : Nat} {l : List Mk} {k : Nat} {p : Mk} (h : HasDiags W (.slice (some ⟨b, off, none⟩) n cap) l) (hi : l[k]? = some p) : W.cell? ⟨b, off + k * 2, none⟩ = some (.int .i64 p.1) ∧ W.cell? ⟨b, off + k * 2 + 1, none⟩ = some (.int .i64 p.2) := by
  rcases h with ⟨rfl, _⟩ | ⟨b', off', cap', he, _, _, hd⟩
  · simp at hi
  · simp only [Value.slice.injEq, Option.some.injEq, Addr.mk.injEq, and_true] at he
    obtain ⟨⟨rfl, rfl⟩, _⟩ := he
    exact hd.read hi
theorem has_addr {W : World} {ao : Option Addr} {n cap : Nat} {l : List Mk} {k : Nat} {p : Mk} (h : HasDiags W (.slice ao n cap) l) (hi : l[k]? = some p) : ∃ b off, ao = some ⟨b, off, none⟩ ∧ b < W.heap.size ∧ n ≤ cap ∧ cap ≤ maxLen := by
  rcases h with ⟨rfl, _⟩ | ⟨b', off', cap', he, h1, h2, hd⟩
  · simp at hi
  · simp only [Value.slice.injEq] at he
    obtain ⟨rfl, rfl, rfl⟩ := he
    exact ⟨b', off', rfl, hd.1, h1, h2⟩
/-- What the law holds: the box of the mark, the slice that came in, the slice that Put gave. -/
def HeldY (w : World) (d : Mk) (v : Value) (l : List Mk) (u : Value) (P : List Mk) (W : World) : Prop := Two W w.heap.size (.int .i64 d.1) (.int .i64 d.2) ∧ HasDiags W v l ∧ HasDiags W u P ∧ Below w.heap.size w W
theorem HeldY.next {w W W' : World} {d : Mk} {v u : Value} {l P : List Mk} (h : HeldY w d v l u P W) (hb : Below W.heap.size W W') : HeldY w d v l u P W' := ⟨h.1.next hb, h.2.1.next hb, h.2.2.1.next hb, h.2.2.2.trans (hb.mono h.2.2.2.size)⟩
theorem HeldY.drew {w W : World} {d : Mk} {v u : Value} {l P : List Mk} (h : HeldY w d v l u P W) : HeldY w d v l u P W.drew := ⟨h.1, h.2.1, h.2.2.1, h.2.2.2.drew⟩
theorem HeldY.drewN {w W : World} {d : Mk} {v u : Value} {l P : List Mk} (h : HeldY w d v l u P W) (n : Nat) : HeldY w d v l u P (W.drewN n) := ⟨h.1, h.2.1, h.2.2.1, below_drewN h.2.2.2 n⟩
theorem heldY_S {w W : World} {d p : Mk} {b off n cap k : Nat} {u : Value} {l P : List Mk} (hi : Hid (l[k]? = some p)) (h : HeldY w d (.slice (some ⟨b, off, none⟩) n cap) l u P W) :
    W.cell? ⟨w.heap.size, 0, none⟩ = some (.int .i64 d.1) ∧ W.cell? ⟨w.heap.size, 1, none⟩ = some (.int .i64 d.2) ∧ W.cell? ⟨b, off + k * 2, none⟩ = some (.int .i64 p.1) ∧ W.cell? ⟨b, off + k * 2 + 1, none⟩ = some (.int .i64 p.2) ∧ HeldY w d (.slice (some ⟨b, off, none⟩) n cap) l u P W :=
  ⟨h.1.2.1, h.1.2.2, (h.2.1.read hi.out).1, (h.2.1.read hi.out).2, h⟩
set_option maxRecDepth 100000 in
set_option maxHeartbeats 4000000 in
theorem Tryd.DiagHeld_calls (v : Value) (l : List Mk) (d : Mk) (w : World) (hv : HasDiags w v l) (ht : Tab w) :
    Calls Tryd.prog 5 #[v, .agg #[.int .i64 d.1, .int .i64 d.2]] w fun e w' => e = .returned (.bool true) ∧ Below w.heap.size w w' := by
  have HS : Hid (∀ W, Tab W → Calls Tryd.prog 9 #[] W fun e w' => e = .returned (.bool true) ∧ Below W.heap.size W w') := fun W h => Tryd.shown_any W h
  have HT := Lib.hid ht
  have HV := Lib.hid hv
  have T0 := Two.new w (.int .i64 d.1) (.int .i64 d.2) 25
  obtain ⟨ao, cap, rfl⟩ := hv.len
  by_cases h20 : (20 : Int) < (l.length : Int)
  · clear ht hv
    go_enter Tryd.func5, Tryd.ntmps5
    go_wp2_with ((go_at_call 9; (with_reducible refine (HS.out _ (HT.out.alloc _)).mono ?_); rintro e w1 ⟨rfl, hb1⟩))
    go_ret
    exact ⟨rfl, ((Below.refl _ w).alloc (Nat.le_refl _) _).trans (hb1.mono (by simp))⟩
  · have hl20 : l.length ≤ 20 := by omega
    have HC : Hid (∀ W, HasDiags W (.slice ao l.length cap) l → Calls Tryd.prog 18 #[.slice ao l.length cap] W fun e w' => e = .returned (.bool (sortB l)) ∧ Below W.heap.size W w') := fun W h => Tryd.rSorted_any _ l W (by omega) h
    cases hso : sortB l with
    | false =>
      rw [hso] at HC
      clear ht hv hso
      go_enter Tryd.func5, Tryd.ntmps5
      go_wp2_with (first | (go_at_call 18; (with_reducible refine (HC.out _ (HV.out.alloc _)).mono ?_); rintro e w2 ⟨rfl, hb2⟩; have B2 := ((Below.refl w.heap.size w).alloc (Nat.le_refl _) (.cells #[.int .i64 d.1, .int .i64 d.2] 25)).trans (hb2.mono (by simp)); have T2 := Lib.hid ((HT.out.alloc (.cells #[.int .i64 d.1, .int .i64 d.2] 25)).next hb2)) | (go_at_call 9; (with_reducible refine (HS.out _ T2.out).mono ?_); rintro e w1 ⟨rfl, hb1⟩))
      go_ret
      exact ⟨rfl, B2.trans (hb1.mono B2.size)⟩
    | true =>
      rw [hso] at HC
      obtain ⟨hl16, hsr⟩ := sortB_iff.1 hso
      obtain ⟨P, hP⟩ : ∃ P, P = putS l d := ⟨_, rfl⟩
      have C14 : Hid (∀ W, HasDiags W (.slice ao l.length cap) l → Calls Tryd.prog 14 #[.slice ao l.length cap, .agg #[.int .i64 d.1, .int .i64 d.2]] W fun e w' => ∃ v', e = .returned v' ∧ w'.ownsRow W.heap.size 25 2 v' P.length (cellsOf P) ∧ Below W.heap.size W w') := fun W h => by rw [hP]; exact Tryd.Put_any _ l d W hsr hl16 h
      have hPl : P.length ≤ 16 := by rw [hP]; exact len_putS _ _
      have HSR := Lib.hid hsr
      have HP := Lib.hid hP
      clear ht hv hso hP hsr
      go_enter Tryd.func5, Tryd.ntmps5
      go_wp2_with (first
        | (go_at_call 18; (with_reducible refine (HC.out _ (HV.out.alloc _)).mono ?_); rintro e w2 ⟨rfl, hb2⟩; have B2 := ((Below.refl w.heap.size w).alloc (Nat.le_refl _) (.cells #[.int .i64 d.1, .int .i64 d.2] 25)).trans (hb2.mono (by simp)); have T2 := Lib.hid ((HT.out.alloc (.cells #[.int .i64 d.1, .int .i64 d.2] 25)).next hb2); have X2 := T0.next hb2; have V2 := Lib.hid ((HV.out.alloc (.cells #[.int .i64 d.1, .int .i64 d.2] 25)).next hb2))
        | (go_at_call 9; (with_reducible refine (HS.out _ T2.out).mono ?_); rintro e w3 ⟨rfl, hb3⟩; have B3 := B2.trans (hb3.mono B2.size); have X3 := X2.next hb3; have V3 := Lib.hid (V2.out.next hb3); have c0 : w3.cell? ⟨w.heap.size, 0, none⟩ = some (.int .i64 d.1) := X3.2.1; have c1 : w3.cell? ⟨w.heap.size, 1, none⟩ = some (.int .i64 d.2) := X3.2.2))
      go_wp2_with (go_at_call 14; (with_reducible refine (C14.out _ V3.out).mono ?_); rintro e w4 ⟨u, rfl, ho4, hb4⟩; have D4 := Lib.hid (has_of_owns ho4); have Y4 : HeldY w d (.slice ao l.length cap) l u P w4 := ⟨X3.next hb4, V3.out.next hb4, has_of_owns ho4, B3.trans (hb4.mono B3.size)⟩; clear ho4)
      obtain ⟨mo, mc, rfl⟩ := D4.out.len
      have Z4 := Lib.hid Y4
      clear Y4 X3 V3 X2 V2 T2 T0 B2 B3 c0 c1 hb2 hb3 hb4 D4 HS HT HC C14 HV
      go_wp2
      go_loopw [6, 7, 8] (fun c t i wr => ∃ (k n : Nat) (tb : Bool), k ≤ l.length ∧ i = .int .i64 (k : Int) ∧ c = .int .i64 (n : Int) ∧ t = .bool tb ∧ Hid (n = cnt l d k) ∧ Hid (tb = thr l d k) ∧ HeldY w d (.slice ao l.length cap) l (.slice mo P.length mc) P wr) (fun _ _ i _ => l.length - (intOf i).toNat)
      case atStart => exact ⟨0, 0, false, Nat.zero_le _, rfl, rfl, rfl, rfl, rfl, Z4.out⟩
      case round =>
        obtain ⟨k, n, tb, hk, rfl, rfl, rfl, hn, htb, HY⟩ := hrel
        clear Z4
        have hn20 : n ≤ 20 := by have := cnt_le l d k; have := hn.out; omega
        by_cases hlt : k < l.length
        · obtain ⟨p, hp⟩ : ∃ p, l[k]? = some p := ⟨_, List.getElem?_eq_getElem hlt⟩
          obtain ⟨b, off, rfl, hbl, hlc, hcm⟩ := has_addr HY.2.1 hp
          unfold maxLen at hcm
          have HPp := Lib.hid hp
          have hS := heldY_S HPp HY
          have N1 := Lib.hid (cnt_step (d := d) hp)
          have N2 := Lib.hid (thr_step (d := d) hp)
          have e3 : (k : Int) < (l.length : Int) := by omega
          have CL : Hid (∀ W, Calls Tryd.prog 19 #[.agg #[.int .i64 p.1, .int .i64 p.2], .agg #[.int .i64 d.1, .int .i64 d.2]] W fun e w' => e = .returned (.bool (lt p d)) ∧ Below W.heap.size W w') := fun W => Tryd.Less_any p d W
          obtain ⟨B, hB⟩ : ∃ B, B = lt p d := ⟨_, rfl⟩
          rw [← hB] at CL
          rw [← hB] at N1
          clear hp hB HY
          have hmx : Tryd.prog.follows .mixedOrders = true := by kernel_rfl
          cases B with
          | true =>
            go_wp2
            go_region_held3 (fun W => W.cell? ⟨w.heap.size, 0, none⟩ = some (.int .i64 d.1) ∧ W.cell? ⟨w.heap.size, 1, none⟩ = some (.int .i64 d.2) ∧ W.cell? ⟨b, off + k * 2, none⟩ = some (.int .i64 p.1) ∧ W.cell? ⟨b, off + k * 2 + 1, none⟩ = some (.int .i64 p.2) ∧ HeldY w d (.slice (some ⟨b, off, none⟩) l.length cap) l (.slice mo P.length mc) P W)
              ((go_split_ands; (first | exact heldY_S HPp (by assumption) | exact heldY_S HPp (HeldY.drew (by assumption)) | exact heldY_S HPp (HeldY.next (by assumption) (by assumption)))))
              (first | (go_at_call 19; (with_reducible refine (CL.out _).mono ?_); rintro e w' ⟨rfl, hb⟩))
            have T := Lib.hid (show _ ∧ _ ∧ _ ∧ _ ∧ HeldY w d (.slice (some ⟨b, off, none⟩) l.length cap) l (.slice mo P.length mc) P w' by assumption).2.2.2.2
            have c0 := (show _ ∧ _ ∧ _ ∧ _ ∧ HeldY w d (.slice (some ⟨b, off, none⟩) l.length cap) l (.slice mo P.length mc) P w' by assumption).1
            have c1 := (show _ ∧ _ ∧ _ ∧ _ ∧ HeldY w d (.slice (some ⟨b, off, none⟩) l.length cap) l (.slice mo P.length mc) P w' by assumption).2.1
            have c2 := (show _ ∧ _ ∧ _ ∧ _ ∧ HeldY w d (.slice (some ⟨b, off, none⟩) l.length cap) l (.slice mo P.length mc) P w' by assumption).2.2.1
            have c3 := (show _ ∧ _ ∧ _ ∧ _ ∧ HeldY w d (.slice (some ⟨b, off, none⟩) l.length cap) l (.slice mo P.length mc) P w' by assumption).2.2.2.1
            clear hS
            cases tb with
            | true =>
              go_wp2
              go_quiet (fail)
              go_wp2
              go_roundw
              case rel => exact ⟨k + 1, n + 1, true, by omega, by go_num, by go_num, rfl, by have := N1.out; have := hn.out; unfold Hid; simp at *; omega, by have := N2.out; have := htb.out; unfold Hid; simp_all, HeldY.drewN T.out _⟩
              case measure => simp [intOf]; omega
            | false =>
              rcases eqm_cases p d with ⟨e1, e2⟩ | ⟨e1, e0, e2⟩ | ⟨e1, e0, e2⟩
              · go_wp2
                go_quiet (fail)
                go_wp2
                go_roundw
                case rel => exact ⟨k + 1, n + 1, false, by omega, by go_num, by go_num, rfl, by have := N1.out; have := hn.out; unfold Hid; simp at *; omega, by have := N2.out; have := htb.out; unfold Hid; simp_all, HeldY.drewN T.out _⟩
                case measure => simp [intOf]; omega
              · go_wp2
                go_quiet (fail)
                go_wp2
                go_roundw
                case rel => exact ⟨k + 1, n + 1, false, by omega, by go_num, by go_num, rfl, by have := N1.out; have := hn.out; unfold Hid; simp at *; omega, by have := N2.out; have := htb.out; unfold Hid; simp_all, HeldY.drewN T.out _⟩
                case measure => simp [intOf]; omega
              · go_wp2
                go_quiet (fail)
                go_wp2
                go_roundw
                case rel => exact ⟨k + 1, n + 1, true, by omega, by go_num, by go_num, rfl, by have := N1.out; have := hn.out; unfold Hid; simp at *; omega, by have := N2.out; have := htb.out; unfold Hid; simp_all, HeldY.drewN T.out _⟩
                case measure => simp [intOf]; omega
          | false =>
            go_wp2
            go_region_held3 (fun W => W.cell? ⟨w.heap.size, 0, none⟩ = some (.int .i64 d.1) ∧ W.cell? ⟨w.heap.size, 1, none⟩ = some (.int .i64 d.2) ∧ W.cell? ⟨b, off + k * 2, none⟩ = some (.int .i64 p.1) ∧ W.cell? ⟨b, off + k * 2 + 1, none⟩ = some (.int .i64 p.2) ∧ HeldY w d (.slice (some ⟨b, off, none⟩) l.length cap) l (.slice mo P.length mc) P W)
              ((go_split_ands; (first | exact heldY_S HPp (by assumption) | exact heldY_S HPp (HeldY.drew (by assumption)) | exact heldY_S HPp (HeldY.next (by assumption) (by assumption)))))
              (first | (go_at_call 19; (with_reducible refine (CL.out _).mono ?_); rintro e w' ⟨rfl, hb⟩))
            have T := Lib.hid (show _ ∧ _ ∧ _ ∧ _ ∧ HeldY w d (.slice (some ⟨b, off, none⟩) l.length cap) l (.slice mo P.length mc) P w' by assumption).2.2.2.2
            have c0 := (show _ ∧ _ ∧ _ ∧ _ ∧ HeldY w d (.slice (some ⟨b, off, none⟩) l.length cap) l (.slice mo P.length mc) P w' by assumption).1
            have c1 := (show _ ∧ _ ∧ _ ∧ _ ∧ HeldY w d (.slice (some ⟨b, off, none⟩) l.length cap) l (.slice mo P.length mc) P w' by assumption).2.1
            have c2 := (show _ ∧ _ ∧ _ ∧ _ ∧ HeldY w d (.slice (some ⟨b, off, none⟩) l.length cap) l (.slice mo P.length mc) P w' by assumption).2.2.1
            have c3 := (show _ ∧ _ ∧ _ ∧ _ ∧ HeldY w d (.slice (some ⟨b, off, none⟩) l.length cap) l (.slice mo P.length mc) P w' by assumption).2.2.2.1
            clear hS
            cases tb with
            | true =>
              go_wp2
              go_quiet (fail)
              go_wp2
              go_roundw
              case rel => exact ⟨k + 1, n, true, by omega, by go_num, rfl, rfl, by have := N1.out; have := hn.out; unfold Hid; simp at *; omega, by have := N2.out; have := htb.out; unfold Hid; simp_all, HeldY.drewN T.out _⟩
              case measure => simp [intOf]; omega
            | false =>
              rcases eqm_cases p d with ⟨e1, e2⟩ | ⟨e1, e0, e2⟩ | ⟨e1, e0, e2⟩
              · go_wp2
                go_quiet (fail)
                go_wp2
                go_roundw
                case rel => exact ⟨k + 1, n, false, by omega, by go_num, rfl, rfl, by have := N1.out; have := hn.out; unfold Hid; simp at *; omega, by have := N2.out; have := htb.out; unfold Hid; simp_all, HeldY.drewN T.out _⟩
                case measure => simp [intOf]; omega
              · go_wp2
                go_quiet (fail)
                go_wp2
                go_roundw
                case rel => exact ⟨k + 1, n, false, by omega, by go_num, rfl, rfl, by have := N1.out; have := hn.out; unfold Hid; simp at *; omega, by have := N2.out; have := htb.out; unfold Hid; simp_all, HeldY.drewN T.out _⟩
                case measure => simp [intOf]; omega
              · go_wp2
                go_quiet (fail)
                go_wp2
                go_roundw
                case rel => exact ⟨k + 1, n, true, by omega, by go_num, rfl, rfl, by have := N1.out; have := hn.out; unfold Hid; simp at *; omega, by have := N2.out; have := htb.out; unfold Hid; simp_all, HeldY.drewN T.out _⟩
                case measure => simp [intOf]; omega
        · obtain rfl : k = l.length := by omega
          have HN := hn
          have HTB := htb
          have Z1 := Lib.hid HY
          clear hn htb HY hlt hk
          go_wp2
          go_loopw [9, 10] (fun h i wr => ∃ (k : Nat) (tc : Bool), k ≤ P.length ∧ i = .int .i64 (k : Int) ∧ h = .bool tc ∧ Hid (tc = thr P d k) ∧ HeldY w d (.slice ao l.length cap) l (.slice mo P.length mc) P wr) (fun _ i _ => P.length - (intOf i).toNat)
          case atStart => exact ⟨0, false, Nat.zero_le _, rfl, rfl, rfl, Z1.out⟩
          case round =>
            obtain ⟨i, tc, hi, rfl, rfl, htc, HY⟩ := hrel
            clear Z1
            by_cases hlt : i < P.length
            · obtain ⟨q, hq⟩ : ∃ q, P[i]? = some q := ⟨_, List.getElem?_eq_getElem hlt⟩
              obtain ⟨b, off, rfl, hbl, hlc, hcm⟩ := has_addr HY.2.2.1 hq
              unfold maxLen at hcm
              have c0 : wr.cell? ⟨w.heap.size, 0, none⟩ = some (.int .i64 d.1) := HY.1.2.1
              have c1 : wr.cell? ⟨w.heap.size, 1, none⟩ = some (.int .i64 d.2) := HY.1.2.2
              obtain ⟨c2, c3⟩ := HY.2.2.1.read hq
              have M1 := Lib.hid (thr_step (d := d) hq)
              have e3 : (i : Int) < (P.length : Int) := by omega
              have T := Lib.hid HY
              have hmx : Tryd.prog.follows .mixedOrders = true := by kernel_rfl
              clear hq HY
              cases tc with
              | true =>
                go_wp2
                go_quiet (fail)
                go_wp2
                go_roundw
                case rel => exact ⟨i + 1, true, by omega, by go_num, rfl, by have := M1.out; have := htc.out; unfold Hid; simp_all, HeldY.drewN T.out _⟩
                case measure => simp [intOf]; omega
              | false =>
                rcases eqm_cases q d with ⟨e1, e2⟩ | ⟨e1, e0, e2⟩ | ⟨e1, e0, e2⟩
                · go_wp2
                  go_quiet (fail)
                  go_wp2
                  go_roundw
                  case rel => exact ⟨i + 1, false, by omega, by go_num, rfl, by have := M1.out; have := htc.out; unfold Hid; simp_all, HeldY.drewN T.out _⟩
                  case measure => simp [intOf]; omega
                · go_wp2
                  go_quiet (fail)
                  go_wp2
                  go_roundw
                  case rel => exact ⟨i + 1, false, by omega, by go_num, rfl, by have := M1.out; have := htc.out; unfold Hid; simp_all, HeldY.drewN T.out _⟩
                  case measure => simp [intOf]; omega
                · go_wp2
                  go_quiet (fail)
                  go_wp2
                  go_roundw
                  case rel => exact ⟨i + 1, true, by omega, by go_num, rfl, by have := M1.out; have := htc.out; unfold Hid; simp_all, HeldY.drewN T.out _⟩
                  case measure => simp [intOf]; omega
            · obtain rfl : i = P.length := by omega
              have HTC := htc
              have Z2 := Lib.hid HY
              clear htc HY hlt hi
              have HSP : Hid (Srt P) := by rw [HP.out]; exact srt_putS HSR.out
              go_wp2
              go_loopw [11, 12] (fun kp i wr => ∃ (k n : Nat), k ≤ l.length ∧ i = .int .i64 (k : Int) ∧ kp = .int .i64 (n : Int) ∧ Hid (n = kep P l k) ∧ HeldY w d (.slice ao l.length cap) l (.slice mo P.length mc) P wr) (fun _ i _ => l.length - (intOf i).toNat)
              case atStart => exact ⟨0, 0, Nat.zero_le _, rfl, rfl, rfl, Z2.out⟩
              case round =>
                obtain ⟨i, kp, hi, rfl, rfl, hkp, HY⟩ := hrel
                clear Z2
                have hkp20 : kp ≤ 20 := by have := kep_le (l := l) HSP.out i; have := hkp.out; omega
                by_cases hlt : i < l.length
                · obtain ⟨p, hp⟩ : ∃ p, l[i]? = some p := ⟨_, List.getElem?_eq_getElem hlt⟩
                  obtain ⟨b, off, rfl, hbl, hlc, hcm⟩ := has_addr HY.2.1 hp
                  unfold maxLen at hcm
                  have K1 := Lib.hid (kep_step (P := P) hp)
                  have e3 : (i : Int) < (l.length : Int) := by omega
                  have HPp := Lib.hid hp
                  have Z3 := Lib.hid HY
                  clear hp HY hbl
                  go_wp2
                  go_loopw [11, 13] (fun km j w2 => ∃ (q m : Nat), q ≤ P.length ∧ j = .int .i64 (q : Int) ∧ km = .int .i64 (m : Int) ∧ Hid (m = kp + ceq P p q) ∧ HeldY w d (.slice (some ⟨b, off, none⟩) l.length cap) l (.slice mo P.length mc) P w2) (fun _ j _ => P.length - (intOf j).toNat)
                  case atStart => exact ⟨0, kp, Nat.zero_le _, rfl, rfl, rfl, Z3.out⟩
                  case round =>
                    obtain ⟨j, m, hj, rfl, rfl, hm, HY⟩ := hrel
                    clear Z3
                    have hm40 : m ≤ 60 := by have := ceq_le P p j; have := hm.out; omega
                    by_cases hlt2 : j < P.length
                    · obtain ⟨y, hy⟩ : ∃ y, P[j]? = some y := ⟨_, List.getElem?_eq_getElem hlt2⟩
                      obtain ⟨b', off', rfl, hbl', hlc', hcm'⟩ := has_addr HY.2.2.1 hy
                      unfold maxLen at hcm'
                      obtain ⟨c2, c3⟩ := HY.2.2.1.read hy
                      obtain ⟨c4, c5⟩ := HY.2.1.read HPp.out
                      have Q1 := Lib.hid (ceq_step (d := p) hy)
                      have e4 : (j : Int) < (P.length : Int) := by omega
                      have T := Lib.hid HY
                      have hmx : Tryd.prog.follows .mixedOrders = true := by kernel_rfl
                      clear hy HY
                      rcases eqm_cases y p with ⟨e1, e2⟩ | ⟨e1, e0, e2⟩ | ⟨e1, e0, e2⟩
                      · go_wp2
                        go_quiet (fail)
                        go_wp2
                        go_roundw
                        case rel => exact ⟨j + 1, m, by omega, by go_num, rfl, by have := Q1.out; have := hm.out; unfold Hid; simp only [e2] at *; simp at *; omega, HeldY.drewN T.out _⟩
                        case measure => simp [intOf]; omega
                      · go_wp2
                        go_quiet (fail)
                        go_wp2
                        go_roundw
                        case rel => exact ⟨j + 1, m, by omega, by go_num, rfl, by have := Q1.out; have := hm.out; unfold Hid; simp only [e2] at *; simp at *; omega, HeldY.drewN T.out _⟩
                        case measure => simp [intOf]; omega
                      · go_wp2
                        go_quiet (fail)
                        go_wp2
                        go_roundw
                        case rel => exact ⟨j + 1, m + 1, by omega, by go_num, by go_num, by have := Q1.out; have := hm.out; unfold Hid; simp only [e2] at *; simp at *; omega, HeldY.drewN T.out _⟩
                        case measure => simp [intOf]; omega
                    · obtain rfl : j = P.length := by omega
                      have Z4 := Lib.hid HY
                      clear HY
                      go_wp2
                      go_roundw
                      case rel => exact ⟨i + 1, m, by omega, by go_num, rfl, by have := K1.out; have := hm.out; have := hkp.out; unfold Hid; omega, Z4.out⟩
                      case measure => simp [intOf]; omega
                · obtain rfl : i = l.length := by omega
                  have HKP := hkp
                  have Z3 := Lib.hid HY
                  clear hkp HY hlt hi
                  cases tb with
                  | true =>
                    have hPe : P = l := by rw [HP.out]; exact held_there HSR.out hl16 HTB.out.symm
                    subst hPe
                    obtain rfl : tc = true := by rw [HTC.out, ← HTB.out]
                    have HM : Hid (∀ x y W, HasDiags W x P → HasDiags W y P → Calls Tryd.prog 12 #[x, y] W fun e w' => e = .returned (.bool true) ∧ Below W.heap.size W w') := fun x y W h2 h3 => Tryd.Same_any x y _ W (by omega) h2 h3
                    have D7 := Lib.hid Z3.out.2.1
                    have E7 := Lib.hid Z3.out.2.2.1
                    have B7 := Z3.out.2.2.2
                    clear Z3 HTC HTB HKP HN HSP HP HSR
                    go_wp2_with (go_at_call 12; (with_reducible refine (HM.out _ _ _ D7.out E7.out).mono ?_); rintro e w8 ⟨rfl, hb8⟩; have B8 := B7.trans (hb8.mono B7.size))
                    go_ret
                    exact ⟨rfl, B8⟩
                  | false =>
                    have h1 := held_has HSR.out hl16 HTB.out.symm
                    have h2 := held_len HTB.out.symm
                    have h3 := held_kept HSR.out hl16 HTB.out.symm
                    rw [← HP.out, ← HTC.out, ← HN.out] at h1
                    rw [← HP.out] at h2
                    rw [← HP.out, ← HKP.out] at h3
                    have B7 := Z3.out.2.2.2
                    clear Z3 HTC HTB HKP HN HSP HP HSR
                    rcases h3 with h3 | ⟨h3, h4⟩
                    · have h5 : (kp : Int) = (l.length : Int) := by omega
                      go_wp2
                      all_goals (go_ret; refine ⟨?_, B7⟩; first | rfl | (simp; done) | (simp; omega) | omega)
                    · have h5 : ¬ ((kp : Int) = (l.length : Int)) := by omega
                      have h6 : (kp : Int) = (l.length : Int) - 1 := by omega
                      have H7 : Hid (((l.length : Int) - 1 == (l.length : Int) || (l.length : Int) == 16) = true) := by unfold Hid; rw [show (l.length : Int) = 16 from by omega]; rfl
                      clear h3 h4 hl16
                      go_wp2
                      all_goals (go_ret; refine ⟨?_, B7⟩; first | rfl | (rw [H7.out]; exact rfl))
#print axioms Tryd.DiagHeld_calls
end Go.Proofs
