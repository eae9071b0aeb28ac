/- The law DiagPuts, as a contract. Conditions: a slice of slices that came in; the integers that an int holds; the table of powers of ten holds what the card lays. -/
import Derived.Test.YtgapefkoemofcaaDoorShown
import Derived.Test.YtgapefkoemofcaaDoorLong
import Derived.Test.YtgapefkoemofcaaDoorRPutAll
namespace Go.Proofs
open Go.RowKit Go.Dg
attribute [local go_sem] Oper.semAt_some
attribute [local go_sem ↓] Go.wp_at_zero Go.wp_at_succ
theorem HasLists.alloc {W : World} {v : Value} {ll : List (List Mk)} (h : HasLists W v ll) (o : Obj) : HasLists (W.alloc o) v ll := h.next ((Below.refl _ _).alloc (Nat.le_refl _) o)
def HeldQ (w : World) (d : Mk) (v u : Value) (A : List Mk) (W : World) : Prop := Two W w.heap.size (.int .i64 d.1) (.int .i64 d.2) ∧ HasDiags W v A ∧ HasDiags W u A ∧ Below w.heap.size w W
theorem HeldQ.next {w W W' : World} {d : Mk} {v u : Value} {A : List Mk} (h : HeldQ w d v u A W) (hb : Below W.heap.size W W') : HeldQ w d v u A W' := ⟨h.1.next hb, h.2.1.next hb, h.2.2.1.next hb, h.2.2.2.trans (hb.mono h.2.2.2.size)⟩
theorem HeldQ.drew {w W : World} {d : Mk} {v u : Value} {A : List Mk} (h : HeldQ w d v u A W) : HeldQ w d v u A W.drew := ⟨h.1, h.2.1, h.2.2.1, h.2.2.2.drew⟩
theorem heldQ_S {w W : World} {d : Mk} {v u : Value} {A : List Mk} (h : HeldQ w d v u A W) : W.cell? ⟨w.heap.size, 0, none⟩ = some (.int .i64 d.1) ∧ W.cell? ⟨w.heap.size, 1, none⟩ = some (.int .i64 d.2) ∧ HeldQ w d v u A W := ⟨h.1.2.1, h.1.2.2, h⟩
theorem HeldQ.v {w W : World} {d : Mk} {v u : Value} {A : List Mk} (h : HeldQ w d v u A W) : HasDiags W v A := h.2.1
theorem HeldQ.u {w W : World} {d : Mk} {v u : Value} {A : List Mk} (h : HeldQ w d v u A W) : HasDiags W u A := h.2.2.1
def fstP (l : List Mk) : Mk := l.head?.getD (0, 0)
theorem Tryd.First_any (v : Value) (l : List Mk) (w : World) (hl : l.length ≤ 2000000) (hv : HasDiags w v l) :
    Calls Tryd.prog 16 #[v] w fun e w' => e = .returned (.tuple #[.agg #[.int .i64 (fstP l).1, .int .i64 (fstP l).2], .bool (!l.isEmpty)]) ∧ Below w.heap.size w w' := by
  rcases hv.split with ⟨rfl, ao, cap, rfl⟩ | ⟨hp, b, off, cap, rfl, _, _, hd⟩
  · exact Tryd.First_none ao cap w
  · cases l with
    | nil => simp at hp
    | cons p r => exact Tryd.First_some b off cap p r w hl hd
theorem Tryd.rFirst_any (v : Value) (l : List Mk) (w : World) (hl : l.length ≤ 2000000) (hv : HasDiags w v l) :
    Calls Tryd.prog 17 #[v] w fun e w' => e = .returned (.tuple #[.agg #[.int .i64 (fstP l).1, .int .i64 (fstP l).2], .bool (!l.isEmpty)]) ∧ Below w.heap.size w w' := by
  rcases hv.split with ⟨rfl, ao, cap, rfl⟩ | ⟨hp, b, off, cap, rfl, _, _, hd⟩
  · exact Tryd.rFirst_none ao cap w
  · cases l with
    | nil => simp at hp
    | cons p r => exact Tryd.rFirst_some b off cap p r w hl hd
/-- What a round of the law holds: the list that it looks at, and the two answers in their boxes. -/
def HeldX (w : World) (b off k : Nat) (u : Value) (l : List Mk) (p : Mk) (bx be : Nat) (W : World) : Prop :=
  (b < W.heap.size ∧ W.cell? ⟨b, off + k, none⟩ = some u) ∧ HasDiags W u l ∧ Two W bx (.int .i64 p.1) (.int .i64 p.2) ∧ Two W be (.int .i64 p.1) (.int .i64 p.2) ∧ w.heap.size ≤ W.heap.size ∧ Below w.heap.size w W
theorem HeldX.next {w W W' : World} {b off k : Nat} {u : Value} {l : List Mk} {p : Mk} {bx be : Nat} (h : HeldX w b off k u l p bx be W) (hb : Below W.heap.size W W') : HeldX w b off k u l p bx be W' :=
  ⟨⟨Nat.lt_of_lt_of_le h.1.1 hb.size, (hb.cell (p := ⟨b, off + k, none⟩) h.1.1).trans h.1.2⟩, h.2.1.next hb, h.2.2.1.next hb, h.2.2.2.1.next hb, Nat.le_trans h.2.2.2.2.1 hb.size, h.2.2.2.2.2.trans (hb.mono h.2.2.2.2.1)⟩
theorem HeldX.drew {w W : World} {b off k : Nat} {u : Value} {l : List Mk} {p : Mk} {bx be : Nat} (h : HeldX w b off k u l p bx be W) : HeldX w b off k u l p bx be W.drew := ⟨h.1, h.2.1, h.2.2.1, h.2.2.2.1, h.2.2.2.2.1, h.2.2.2.2.2.drew⟩
theorem heldX_S {w W : World} {b off k : Nat} {u : Value} {l : List Mk} {p : Mk} {bx be : Nat} (h : HeldX w b off k u l p bx be W) : W.cell? ⟨b, off + k, none⟩ = some u ∧ W.cell? ⟨bx, 0, none⟩ = some (.int .i64 p.1) ∧ W.cell? ⟨bx, 1, none⟩ = some (.int .i64 p.2) ∧ W.cell? ⟨be, 0, none⟩ = some (.int .i64 p.1) ∧ W.cell? ⟨be, 1, none⟩ = some (.int .i64 p.2) ∧ HeldX w b off k u l p bx be W := ⟨h.1.2, h.2.2.1.2.1, h.2.2.1.2.2, h.2.2.2.1.2.1, h.2.2.2.1.2.2, h⟩
theorem HeldX.u {w W : World} {b off k : Nat} {u : Value} {l : List Mk} {p : Mk} {bx be : Nat} (h : HeldX w b off k u l p bx be W) : HasDiags W u l := h.2.1
set_option maxRecDepth 100000 in
set_option maxHeartbeats 4000000 in
theorem Tryd.DiagPuts_calls (v : Value) (ll : List (List Mk)) (d : Mk) (w : World) (hv : HasLists w v ll) (ht : Tab w) :
    Calls Tryd.prog 3 #[v, .agg #[.int .i64 d.1, .int .i64 d.2]] w fun e w' => e = .returned (.bool true) ∧ Below w.heap.size w w' := by
  have HS : Hid (∀ W, Tab W → Calls Tryd.prog 9 #[] W fun e w' => e = .returned (.bool true) ∧ Below W.heap.size W w') := fun W h => Tryd.shown_any W h
  have HT := Lib.hid ht
  have HL : Hid (∀ W, HasLists W v ll → Calls Tryd.prog 8 #[v] W fun e w' => e = .returned (.bool (!fitB ll)) ∧ W = w') := fun W h => Tryd.long_any v ll W h
  have HV := Lib.hid hv
  cases hfit : fitB ll with
  | false =>
    rw [hfit] at HL
    clear ht hfit hv
    go_enter Tryd.func3, Tryd.ntmps3
    go_wp2_with (first | (go_at_call 8; (with_reducible refine (HL.out _ (HV.out.alloc _)).mono ?_); rintro e w' ⟨rfl, rfl⟩) | (go_at_call 9; (with_reducible refine (HS.out _ (HT.out.alloc _)).mono ?_); rintro e w1 ⟨rfl, hb1⟩))
    go_ret
    exact ⟨rfl, ((Below.refl _ w).alloc (Nat.le_refl _) _).trans (hb1.mono (by simp))⟩
  | true =>
    obtain ⟨f1, f2, f3⟩ := fitB_iff.1 hfit
    rw [hfit] at HL
    obtain ⟨A, hA⟩ : ∃ A, A = allS ll.flatten := ⟨_, rfl⟩
    have hAl : A.length ≤ 16 := by rw [hA]; exact len_allS _
    have hAs : Srt A := by rw [hA]; exact srt_allS _
    have hf2 : ∀ l ∈ ll, l.length ≤ 2000000 := fun l hl => by have := f2 l hl; omega
    have HA : Hid (∀ W, HasLists W v ll → Calls Tryd.prog 10 #[v] W fun e w' => ∃ v', e = .returned v' ∧ w'.ownsRow W.heap.size 25 2 v' A.length (cellsOf A) ∧ Below W.heap.size W w') := fun W h => by rw [hA]; exact Tryd.All_any v ll W (by omega) hf2 h
    have HR : Hid (∀ W, HasLists W v ll → Calls Tryd.prog 11 #[v] W fun e w' => ∃ v', e = .returned v' ∧ w'.ownsRow W.heap.size 25 2 v' A.length (cellsOf A) ∧ Below W.heap.size W w') := fun W h => by rw [hA]; exact Tryd.rAll_any v ll W (by omega) hf2 h
    obtain ⟨P, hP⟩ : ∃ P, P = putS A d := ⟨_, rfl⟩
    have hPl : P.length ≤ 16 := by rw [hP]; exact len_putS _ _
    have C12 : Hid (∀ x y l W, l.length ≤ 16 → HasDiags W x l → HasDiags W y l → Calls Tryd.prog 12 #[x, y] W fun e w' => e = .returned (.bool true) ∧ Below W.heap.size W w') := fun x y l W h1 h2 h3 => Tryd.Same_any x y l W (by omega) h2 h3
    have C13 : Hid (∀ x W, HasDiags W x A → Calls Tryd.prog 13 #[x] W fun e w' => e = .returned (.bool true) ∧ Below W.heap.size W w') := fun x W h => by
      have := Tryd.Sorted_any x A W (by omega) h
      rw [sortB_iff.2 ⟨hAl, hAs⟩] at this
      exact this
    have C14 : Hid (∀ x W, HasDiags W x A → Calls Tryd.prog 14 #[x, .agg #[.int .i64 d.1, .int .i64 d.2]] W fun e w' => ∃ v', e = .returned v' ∧ w'.ownsRow W.heap.size 25 2 v' P.length (cellsOf P) ∧ Below W.heap.size W w') := fun x W h => by rw [hP]; exact Tryd.Put_any x A d W hAs hAl h
    have C15 : Hid (∀ x W, HasDiags W x A → Calls Tryd.prog 15 #[x, .agg #[.int .i64 d.1, .int .i64 d.2]] W fun e w' => ∃ v', e = .returned v' ∧ w'.ownsRow W.heap.size 25 2 v' P.length (cellsOf P) ∧ Below W.heap.size W w') := fun x W h => by rw [hP]; exact Tryd.rPut_any x A d W (by omega) h
    have T0 := Two.new w (.int .i64 d.1) (.int .i64 d.2) 25
    have HF2 := Lib.hid f2
    clear ht hfit hA hP f3 hf2 f2 hv
    go_enter Tryd.func3, Tryd.ntmps3
    go_wp2_with (first | (go_at_call 8; (with_reducible refine (HL.out _ (HV.out.alloc _)).mono ?_); rintro e w' ⟨rfl, rfl⟩) | (go_at_call 9; (with_reducible refine (HS.out _ (HT.out.alloc _)).mono ?_); rintro e w1 ⟨rfl, hb1⟩; have B1 := ((Below.refl w.heap.size w).alloc (Nat.le_refl _) (.cells #[.int .i64 d.1, .int .i64 d.2] 25)).trans (hb1.mono (by simp)); have T1 := T0.next hb1; have V1 := Lib.hid (HV.out.next B1)))
    go_wp2_with (go_at_call 10; (with_reducible refine (HA.out _ V1.out).mono ?_); rintro e w2 ⟨va, rfl, ho2, hb2⟩; have B2 := B1.trans (hb2.mono B1.size); have T2 := T1.next hb2; have V2 := Lib.hid (V1.out.next hb2); have D2 := Lib.hid (has_of_owns ho2); clear ho2)
    go_wp2_with (go_at_call 11; (with_reducible refine (HR.out _ V2.out).mono ?_); rintro e w3 ⟨vb, rfl, ho3, hb3⟩; have B3 := B2.trans (hb3.mono B2.size); have T3 := T2.next hb3; have D3 := D2.out.next hb3; have E3 := has_of_owns ho3; clear ho3)
    have hS := heldQ_S (⟨T3, D3, E3, B3⟩ : HeldQ w d va vb A w3)
    clear T0 T1 T2 T3 D2 D3 E3 B1 B2 B3 hb1 hb2 hb3 V1 V2 HA HR HS HL
    go_region_held3 (fun W => W.cell? ⟨w.heap.size, 0, none⟩ = some (.int .i64 d.1) ∧ W.cell? ⟨w.heap.size, 1, none⟩ = some (.int .i64 d.2) ∧ HeldQ w d va vb A W)
      ((go_split_ands; (first | exact heldQ_S (by assumption) | exact heldQ_S (HeldQ.drew (by assumption)) | exact heldQ_S (HeldQ.next (by assumption) (by assumption)))))
      (first
        | (go_at_call 12; (with_reducible refine Calls.mono (C12.out va vb A _ hAl (by go_split_ands; first | exact HeldQ.v (by assumption) | exact HeldQ.v (HeldQ.drew (by assumption))) (by go_split_ands; first | exact HeldQ.u (by assumption) | exact HeldQ.u (HeldQ.drew (by assumption)))) ?_); rintro e w' ⟨rfl, hb⟩)
        | (go_at_call 13; (with_reducible refine Calls.mono (C13.out va _ (by go_split_ands; first | exact HeldQ.v (by assumption) | exact HeldQ.v (HeldQ.drew (by assumption)))) ?_); rintro e w' ⟨rfl, hb⟩)
        | (go_at_call 14; (with_reducible refine Calls.mono (C14.out va _ (by go_split_ands; first | exact HeldQ.v (by assumption) | exact HeldQ.v (HeldQ.drew (by assumption)))) ?_); rintro e w' ⟨v7, rfl, ho7, hb⟩; have h7 := has_of_owns ho7; clear ho7; (try have h8 := (show HasDiags w' v8 P by first | exact HasDiags.next h8 hb | exact HasDiags.next (HasDiags.drew h8) hb)))
        | (go_at_call 15; (with_reducible refine Calls.mono (C15.out vb _ (by go_split_ands; first | exact HeldQ.u (by assumption) | exact HeldQ.u (HeldQ.drew (by assumption)))) ?_); rintro e w' ⟨v8, rfl, ho8, hb⟩; have h8 := has_of_owns ho8; clear ho8; (try have h7 := (show HasDiags w' v7 P by first | exact HasDiags.next h7 hb | exact HasDiags.next (HasDiags.drew h7) hb)))
        | (go_at_call 12; (with_reducible refine Calls.mono (C12.out v7 v8 P _ hPl (by first | exact h7 | exact HasDiags.drew h7) (by first | exact h8 | exact HasDiags.drew h8)) ?_); rintro e w' ⟨rfl, hb⟩))
    have T := (show _ ∧ _ ∧ HeldQ w d va vb A w' by assumption).2.2
    have B := T.2.2.2
    clear T hS C12 C13 C14 C15
    have HV3 := Lib.hid HV.out
    rcases HV3.out with ⟨rfl, ao, cap, rfl⟩ | ⟨b, off, cap, rfl, hlc, hcm, hd⟩
    · go_wp2
      go_loopw [7] (fun i wr => i = .int .i64 0 ∧ Below w.heap.size w wr) (fun _ _ => 0)
      case atStart => exact ⟨rfl, B⟩
      case round =>
        obtain ⟨rfl, hB⟩ := hrel
        go_wp2
        go_ret
        exact ⟨rfl, hB⟩
    · have HD := Lib.hid hd
      have hbl := hd.1
      unfold maxLen at hcm
      clear hd HV HV3 HT
      go_wp2
      go_loopw [7] (fun i wr => ∃ k : Nat, k ≤ ll.length ∧ i = .int .i64 (k : Int) ∧ Below w.heap.size w wr) (fun i _ => ll.length - (intOf i).toNat)
      case atStart => exact ⟨0, Nat.zero_le _, rfl, B⟩
      case round =>
        obtain ⟨k, hk, rfl, hB⟩ := hrel
        clear B
        by_cases hlt : k < ll.length
        · obtain ⟨l, hp⟩ : ∃ l, ll[k]? = some l := ⟨_, List.getElem?_eq_getElem hlt⟩
          have hll := HF2.out l (List.mem_of_getElem? hp)
          obtain ⟨u, x0, hu⟩ := HD.out.2 k l hp
          have hs1 : w.heap.size ≤ wr.heap.size := hB.size
          have hbr : b < wr.heap.size := Nat.lt_of_lt_of_le hbl hs1
          replace x0 := (hB.cell (p := ⟨b, off + k, none⟩) hbl).trans x0
          have U1 := Lib.hid (hu.next hB)
          clear hp hu
          obtain ⟨p, hpe⟩ : ∃ p, p = fstP l := ⟨_, rfl⟩
          obtain ⟨f, hfe⟩ : ∃ f, f = !l.isEmpty := ⟨_, rfl⟩
          obtain ⟨F, hFe⟩ : ∃ F, F = sortB l := ⟨_, rfl⟩
          have C16 : Hid (∀ W, HasDiags W u l → Calls Tryd.prog 16 #[u] W fun e w' => e = .returned (.tuple #[.agg #[.int .i64 p.1, .int .i64 p.2], .bool f]) ∧ Below W.heap.size W w') := fun W h => by rw [hpe, hfe]; exact Tryd.First_any u l W (by omega) h
          have C17 : Hid (∀ W, HasDiags W u l → Calls Tryd.prog 17 #[u] W fun e w' => e = .returned (.tuple #[.agg #[.int .i64 p.1, .int .i64 p.2], .bool f]) ∧ Below W.heap.size W w') := fun W h => by rw [hpe, hfe]; exact Tryd.rFirst_any u l W (by omega) h
          have C13 : Hid (∀ W, HasDiags W u l → Calls Tryd.prog 13 #[u] W fun e w' => e = .returned (.bool F) ∧ Below W.heap.size W w') := fun W h => by rw [hFe]; exact Tryd.Sorted_any u l W (by omega) h
          have C18 : Hid (∀ W, HasDiags W u l → Calls Tryd.prog 18 #[u] W fun e w' => e = .returned (.bool F) ∧ Below W.heap.size W w') := fun W h => by rw [hFe]; exact Tryd.rSorted_any u l W (by omega) h
          clear hpe hfe hFe
          go_wp2_with (go_at_call 16; (with_reducible refine (C16.out _ U1.out).mono ?_); rintro e w2 ⟨rfl, hb2⟩; have U2 := Lib.hid ((U1.out.next hb2).next ((Below.refl _ w2).alloc (Nat.le_refl _) (.cells #[.int .i64 p.1, .int .i64 p.2] 25))); have x2 := (hb2.cell (p := ⟨b, off + k, none⟩) hbr).trans x0; have hbr2 : b < w2.heap.size := Nat.lt_of_lt_of_le hbr hb2.size)
          have X2 := Two.new w2 (.int .i64 p.1) (.int .i64 p.2) 25
          refine (C17.out _ U2.out).mono ?_
          rintro e w4 ⟨rfl, hb4⟩
          have hB4 : Below w.heap.size w w4 := ((hB.trans (hb2.mono hs1)).alloc (Nat.le_trans hs1 hb2.size) _).trans (hb4.mono (by have := hb2.size; simp; omega))
          have x4 : w4.cell? ⟨b, off + k, none⟩ = some u := (hb4.cell (p := ⟨b, off + k, none⟩) (by simp; omega)).trans (((Below.refl w2.heap.size w2).alloc (Nat.le_refl _) (.cells #[.int .i64 p.1, .int .i64 p.2] 25)).cell (p := ⟨b, off + k, none⟩) hbr2 |>.trans x2)
          have hbr4 : b < w4.heap.size := by have := hb4.size; simp at this; omega
          have hs4 : w.heap.size ≤ w4.heap.size := hB4.size
          have H4 : HeldX w b off k u l p w2.heap.size w4.heap.size (w4.alloc (.cells #[.int .i64 p.1, .int .i64 p.2] 25)) := by
            have hn := (Below.refl w4.heap.size w4).alloc (Nat.le_refl _) (.cells #[.int .i64 p.1, .int .i64 p.2] 25)
            exact ⟨⟨by simp; omega, (hn.cell (p := ⟨b, off + k, none⟩) hbr4).trans x4⟩, (U2.out.next hb4).next hn, (X2.next hb4).next hn, Two.new w4 _ _ _, by simp; omega, hB4.alloc hs4 _⟩
          clear X2 U1 U2 x0 x2 hbr2 hb2 hb4 hB hB4
          go_wp2
          have hS := heldX_S H4
          clear H4 x4
          go_region_held3 (fun W => W.cell? ⟨b, off + k, none⟩ = some u ∧ W.cell? ⟨w2.heap.size, 0, none⟩ = some (.int .i64 p.1) ∧ W.cell? ⟨w2.heap.size, 1, none⟩ = some (.int .i64 p.2) ∧ W.cell? ⟨w4.heap.size, 0, none⟩ = some (.int .i64 p.1) ∧ W.cell? ⟨w4.heap.size, 1, none⟩ = some (.int .i64 p.2) ∧ HeldX w b off k u l p w2.heap.size w4.heap.size W)
            ((go_split_ands; (first | exact heldX_S (by assumption) | exact heldX_S (HeldX.drew (by assumption)) | exact heldX_S (HeldX.next (by assumption) (by assumption)))))
            (first
              | (go_at_call 13; (with_reducible refine Calls.mono (C13.out _ (by go_split_ands; first | exact HeldX.u (by assumption) | exact HeldX.u (HeldX.drew (by assumption)))) ?_); rintro e w' ⟨rfl, hb⟩)
              | (go_at_call 18; (with_reducible refine Calls.mono (C18.out _ (by go_split_ands; first | exact HeldX.u (by assumption) | exact HeldX.u (HeldX.drew (by assumption)))) ?_); rintro e w' ⟨rfl, hb⟩))
          have T := (show _ ∧ _ ∧ _ ∧ _ ∧ _ ∧ HeldX w b off k u l p w2.heap.size w4.heap.size w' by assumption).2.2.2.2.2
          have BT := T.2.2.2.2.2
          clear hS T
          go_wp2
          go_roundw
          case rel => exact ⟨k + 1, by omega, by go_num, BT⟩
          case measure => simp [intOf]; omega
        · obtain rfl : k = ll.length := by omega
          go_wp2
          go_ret
          exact ⟨rfl, hB⟩
#print axioms Tryd.DiagPuts_calls
end Go.Proofs
