/- The document's own Put. Conditions: a list of at most two million, sorted or not. -/
import Derived.Test.YtgapefkoemofcaaDoorRLess
namespace Go.Proofs
open Go.RowKit Go.Dg
attribute [local go_sem] Oper.semAt_some
attribute [local go_sem ↓] Go.wp_at_zero Go.wp_at_succ
/-- What the document's Put holds while it goes: its own box, the list that came in, and the one that it makes. -/
def HeldP (w : World) (d : Mk) (b off : Nat) (l : List Mk) (v : Value) (m : List Mk) (W : World) : Prop :=
  Two W w.heap.size (.int .i64 d.1) (.int .i64 d.2) ∧ DiagAt W b off l ∧ b < w.heap.size ∧ W.ownsRow (w.heap.size + 1) 25 2 v m.length (cellsOf m) ∧ w.heap.size + 1 ≤ W.heap.size ∧ Below w.heap.size w W
theorem HeldP.next {w W W' : World} {d : Mk} {b off : Nat} {l m : List Mk} {v : Value} (h : HeldP w d b off l v m W) (hb : Below W.heap.size W W') : HeldP w d b off l v m W' :=
  ⟨h.1.next hb, h.2.1.next hb, h.2.2.1, ownsRow_below h.2.2.2.1 hb (Nat.le_refl _), Nat.le_trans h.2.2.2.2.1 hb.size, h.2.2.2.2.2.trans (hb.mono (by have := h.2.2.2.2.1; omega))⟩
theorem HeldP.drew {w W : World} {d : Mk} {b off : Nat} {l m : List Mk} {v : Value} (h : HeldP w d b off l v m W) : HeldP w d b off l v m W.drew := ⟨h.1, h.2.1, h.2.2.1, h.2.2.2.1, h.2.2.2.2.1, h.2.2.2.2.2.drew⟩
theorem HeldP.drewN {w W : World} {d : Mk} {b off : Nat} {l m : List Mk} {v : Value} (h : HeldP w d b off l v m W) (n : Nat) : HeldP w d b off l v m (W.drewN n) := ⟨h.1, h.2.1, h.2.2.1, h.2.2.2.1, h.2.2.2.2.1, below_drewN h.2.2.2.2.2 n⟩
theorem HeldP.push {w W W' : World} {d p : Mk} {b off : Nat} {l m : List Mk} {v v' : Value} {tmp : Obj} (h : HeldP w d b off l v m W) (ho : W'.ownsRow (w.heap.size + 1) 25 2 v' (m.length + 1) (cellsOf m ++ [.int .i64 p.1, .int .i64 p.2])) (hg : (W.alloc tmp).grownBy W' v.ownBlock) : HeldP w d b off l v' (m ++ [p]) W' := by
  have hb : Below (w.heap.size + 1) W W' := grown_below (Below.refl _ _) h.2.2.2.2.1 h.2.2.2.1 hg
  refine ⟨h.1.below hb (by omega), h.2.1.below hb (by have := h.2.2.1; omega), h.2.2.1, ?_, Nat.le_trans h.2.2.2.2.1 hb.size, h.2.2.2.2.2.trans (hb.mono (by omega))⟩
  rw [List.length_append, cells_append]; exact ho
theorem heldP_S {w W : World} {d p : Mk} {b off i : Nat} {l m : List Mk} {v : Value} (hi : Hid (l[i]? = some p)) (h : HeldP w d b off l v m W) : W.cell? ⟨w.heap.size, 0, none⟩ = some (.int .i64 d.1) ∧ W.cell? ⟨w.heap.size, 1, none⟩ = some (.int .i64 d.2) ∧ W.cell? ⟨b, off + i * 2, none⟩ = some (.int .i64 p.1) ∧ W.cell? ⟨b, off + i * 2 + 1, none⟩ = some (.int .i64 p.2) ∧ HeldP w d b off l v m W := ⟨h.1.2.1, h.1.2.2, (h.2.1.read hi.out).1, (h.2.1.read hi.out).2, h⟩
theorem owns_empty2 (w : World) (e : TypeId) (base : Nat) (hb : base ≤ w.heap.size) : (w.alloc (.cells #[] e)).ownsRow base e 2 (.slice (some ⟨w.heap.size, 0, none⟩) 0 0) 0 [] :=
  World.ownsRow_made w _ 0 hb (by unfold maxLen; omega) rfl
theorem HeldP.own {w W : World} {d : Mk} {b off : Nat} {l m : List Mk} {v : Value} (h : HeldP w d b off l v m W) : W.ownsRow (w.heap.size + 1) 25 2 v m.length (cellsOf m) := h.2.2.2.1
theorem HeldP.sz {w W : World} {d : Mk} {b off : Nat} {l m : List Mk} {v : Value} (h : HeldP w d b off l v m W) : w.heap.size + 1 ≤ W.heap.size := h.2.2.2.2.1
theorem HeldP.blt {w W : World} {d : Mk} {b off : Nat} {l m : List Mk} {v : Value} (h : HeldP w d b off l v m W) : b < W.heap.size := h.2.1.1
theorem fit1 {n : Nat} (h : n ≤ 2000001) : n + 1 ≤ maxLen := by unfold maxLen; omega
theorem fit2 {n : Nat} (h : n ≤ 2000001) : (n + 1) * 16 ≤ 140737488355328 := by omega
set_option maxRecDepth 100000 in
set_option maxHeartbeats 4000000 in
theorem Tryd.rPut_some (b off cap B : Nat) (l : List Mk) (d : Mk) (R : List Mk) (M : Nat → List Mk) (w : World) (hl : l.length ≤ 2000000) (hc : l.length ≤ cap) (hcm : cap ≤ maxLen) (hd : DiagAt w b off l)
    (hBl : B ≤ l.length) (hlo : ∀ k p, k < B → l[k]? = some p → lt p d = true) (hat : ∀ p, l[B]? = some p → lt p d = false) (hM0 : M 0 = []) (hM : ∀ k p, k ≠ B → l[k]? = some p → M (k + 1) = M k ++ [p]) (hMB : ∀ p, l[B]? = some p → M (B + 1) = if p = d then M B ++ [d] else M B ++ [d] ++ [p])
    (hMl : ∀ k, k ≤ l.length → (M k).length ≤ k + 1) (hM1 : B < l.length → 1 ≤ (M l.length).length) (hR : R = if B < l.length then M l.length else M l.length ++ [d]) :
    Calls Tryd.prog 15 #[.slice (some ⟨b, off, none⟩) l.length cap, .agg #[.int .i64 d.1, .int .i64 d.2]] w fun e w' => ∃ v', e = .returned v' ∧ w'.ownsRow w.heap.size 25 2 v' (R.take 16).length (cellsOf (R.take 16)) ∧ Below w.heap.size w w' := by
  obtain ⟨i0, hi, hz0, hz1, hz2⟩ := info_parts Tryd.info25
  have HI := Lib.hid hi
  have HC : Hid (∀ p W, Calls Tryd.prog 19 #[.agg #[.int .i64 p.1, .int .i64 p.2], .agg #[.int .i64 d.1, .int .i64 d.2]] W fun e w' => e = .returned (.bool (lt p d)) ∧ Below W.heap.size W w') := fun p W => Tryd.Less_any p d W
  have H0 : HeldP w d b off l (.slice (some ⟨w.heap.size + 1, 0, none⟩) 0 0) (M 0) ((w.alloc (.cells #[.int .i64 d.1, .int .i64 d.2] 25)).alloc (.cells #[] 25)) := by
    have T := (Two.new w (.int .i64 d.1) (.int .i64 d.2) 25).alloc (.cells #[] 25)
    have hb := ((Below.refl _ w).alloc (Nat.le_refl _) (.cells #[.int .i64 d.1, .int .i64 d.2] 25)).alloc (by simp) (.cells #[] 25)
    have O := owns_empty2 (w.alloc (.cells #[.int .i64 d.1, .int .i64 d.2] 25)) 25 (w.heap.size + 1) (by simp)
    rw [hM0]
    exact ⟨T, hd.next hb, hd.1, by simpa [cellsOf] using O, by simp, hb⟩
  have HLo := Lib.hid hlo
  have HAt := Lib.hid hat
  have HM := Lib.hid hM
  have HMB := Lib.hid hMB
  have HMl := Lib.hid hMl
  have HM1 := Lib.hid hM1
  have HR := Lib.hid hR
  unfold maxLen at hcm
  clear hi hd hlo hat hM0 hM hMB hMl hM1 hR
  go_enter Tryd.func15, Tryd.ntmps15
  go_wp2
  go_loopw [5, 6, 7] (fun v' f i wr => ∃ k : Nat, k ≤ l.length ∧ i = .int .i64 (k : Int) ∧ ((k ≤ B ∧ f = .bool false) ∨ (B < k ∧ f = .bool true)) ∧ HeldP w d b off l v' (M k) wr) (fun _ _ i _ => l.length - (intOf i).toNat)
  case atStart => exact ⟨0, Nat.zero_le _, rfl, .inl ⟨Nat.zero_le _, rfl⟩, H0⟩
  case round =>
    obtain ⟨k, hk, rfl, hflag, hH⟩ := hrel
    clear H0
    have hmk := HMl.out k hk
    have hml : (M k).length ≤ 2000001 := by omega
    clear hmk
    by_cases hlt : k < l.length
    · obtain ⟨p, hp⟩ : ∃ p, l[k]? = some p := ⟨_, List.getElem?_eq_getElem hlt⟩
      have HP := Lib.hid hp
      have hS := heldP_S HP hH
      rcases hflag with ⟨hkB, rfl⟩ | ⟨hkB, rfl⟩
      · rcases Nat.lt_or_eq_of_le hkB with hkB | rfl
        · have hx : lt p d = true := HLo.out k p hkB hp
          have HCm := Lib.hid (HC.out p)
          rw [hx] at HCm
          have HT := Lib.hid (HM.out k p (by omega) hp)
          clear hp hx HC hH
          go_wp2
          go_region_held3 (fun W => W.cell? ⟨w.heap.size, 0, none⟩ = some (.int .i64 d.1) ∧ W.cell? ⟨w.heap.size, 1, none⟩ = some (.int .i64 d.2) ∧ W.cell? ⟨b, off + k * 2, none⟩ = some (.int .i64 p.1) ∧ W.cell? ⟨b, off + k * 2 + 1, none⟩ = some (.int .i64 p.2) ∧ HeldP w d b off l u5 (M k) W)
            ((go_split_ands; (first | exact heldP_S HP (by assumption) | exact heldP_S HP (HeldP.drew (by assumption)) | exact heldP_S HP (HeldP.next (by assumption) (by assumption)))))
            (first | (go_at_call 19; (with_reducible refine (HCm.out _).mono ?_); rintro e w' ⟨rfl, hb⟩))
          have T := (show _ ∧ _ ∧ _ ∧ _ ∧ HeldP w d b off l u5 (M k) w' by assumption)
          clear hS
          obtain ⟨c0, c1, c2, c3, T⟩ := T
          have hbw := T.blt
          go_wp2_with (at_builtin; refine wpList_append_own _ rfl _ _ 28 rfl (w.heap.size + 1) 25 i0 (.agg #[.int .i64 0, .int .i64 0]) 2 16 Tryd.underlying28 HI.out hz0 hz1 hz2 rfl (by decide) _ _ _ rfl (T.own.alloc _) ⟨w'.heap.size, 0, none⟩ 1 1 [.int .i64 p.1, .int .i64 p.2] rfl rfl (cells_new2' (by simp)) (by simp [Value.oneCell']) (fit1 hml) (fit2 hml) (by have := T.sz; simp; omega) ?_; intro v2 w2 hownw2 hgroww2 _; have Tw2 := T.push hownw2 hgroww2; clear hownw2 hgroww2)
          go_roundw
          case rel => exact ⟨k + 1, by omega, by go_num, .inl ⟨by omega, rfl⟩, by rw [HT.out]; exact Tw2⟩
          case measure => simp [intOf]; omega
        · have hx : lt p d = false := HAt.out p hp
          have HCm := Lib.hid (HC.out p)
          rw [hx] at HCm
          have hT := HMB.out p hp
          clear hp hx HC hH hkB
          by_cases hpd : p = d
          · subst hpd
            rw [if_pos rfl] at hT
            have HT := Lib.hid hT
            clear hT
            go_wp2
            go_region_held3 (fun W => W.cell? ⟨w.heap.size, 0, none⟩ = some (.int .i64 p.1) ∧ W.cell? ⟨w.heap.size, 1, none⟩ = some (.int .i64 p.2) ∧ W.cell? ⟨b, off + k * 2, none⟩ = some (.int .i64 p.1) ∧ W.cell? ⟨b, off + k * 2 + 1, none⟩ = some (.int .i64 p.2) ∧ HeldP w p b off l u5 (M k) W)
              ((go_split_ands; (first | exact heldP_S HP (by assumption) | exact heldP_S HP (HeldP.drew (by assumption)) | exact heldP_S HP (HeldP.next (by assumption) (by assumption)))))
              (first | (go_at_call 19; (with_reducible refine (HCm.out _).mono ?_); rintro e w' ⟨rfl, hb⟩))
            have T := (show _ ∧ _ ∧ _ ∧ _ ∧ HeldP w p b off l u5 (M k) w' by assumption)
            clear hS
            obtain ⟨c0, c1, c2, c3, T⟩ := T
            have hbw := T.blt
            go_wp2_with (at_builtin; refine wpList_append_own _ rfl _ _ 28 rfl (w.heap.size + 1) 25 i0 (.agg #[.int .i64 0, .int .i64 0]) 2 16 Tryd.underlying28 HI.out hz0 hz1 hz2 rfl (by decide) _ _ _ rfl (T.own.alloc _) ⟨w'.heap.size, 0, none⟩ 1 1 [.int .i64 p.1, .int .i64 p.2] rfl rfl (cells_new2' (by simp)) (by simp [Value.oneCell']) (fit1 hml) (fit2 hml) (by have := T.sz; simp; omega) ?_; intro v2 w2 hownw2 hgroww2 _; have Tw2 := T.push hownw2 hgroww2; clear hownw2 hgroww2; obtain ⟨e0, e1, e2, e3, _⟩ := heldP_S HP Tw2; have hbw2 := Tw2.blt)
            go_quiet (fail)
            go_wp2
            go_roundw
            case rel => exact ⟨k + 1, by omega, by go_num, .inr ⟨by omega, rfl⟩, by rw [HT.out]; exact Tw2.drewN _⟩
            case measure => simp [intOf]; omega
          · rw [if_neg hpd] at hT
            have HT := Lib.hid hT
            clear hT
            have hne : (p.1 == d.1) = false ∨ ((p.1 == d.1) = true ∧ (p.2 == d.2) = false) := by
              rw [beq_eq_false_iff_ne, beq_eq_false_iff_ne, beq_iff_eq]
              by_cases h1 : p.1 = d.1
              · exact .inr ⟨h1, fun h2 => hpd (Prod.ext h1 h2)⟩
              · exact .inl h1
            clear hpd
            go_wp2
            go_region_held3 (fun W => W.cell? ⟨w.heap.size, 0, none⟩ = some (.int .i64 d.1) ∧ W.cell? ⟨w.heap.size, 1, none⟩ = some (.int .i64 d.2) ∧ W.cell? ⟨b, off + k * 2, none⟩ = some (.int .i64 p.1) ∧ W.cell? ⟨b, off + k * 2 + 1, none⟩ = some (.int .i64 p.2) ∧ HeldP w d b off l u5 (M k) W)
              ((go_split_ands; (first | exact heldP_S HP (by assumption) | exact heldP_S HP (HeldP.drew (by assumption)) | exact heldP_S HP (HeldP.next (by assumption) (by assumption)))))
              (first | (go_at_call 19; (with_reducible refine (HCm.out _).mono ?_); rintro e w' ⟨rfl, hb⟩))
            have T := (show _ ∧ _ ∧ _ ∧ _ ∧ HeldP w d b off l u5 (M k) w' by assumption)
            clear hS
            obtain ⟨c0, c1, c2, c3, T⟩ := T
            have hbw := T.blt
            go_wp2_with (at_builtin; refine wpList_append_own _ rfl _ _ 28 rfl (w.heap.size + 1) 25 i0 (.agg #[.int .i64 0, .int .i64 0]) 2 16 Tryd.underlying28 HI.out hz0 hz1 hz2 rfl (by decide) _ _ _ rfl (T.own.alloc _) ⟨w'.heap.size, 0, none⟩ 1 1 [.int .i64 d.1, .int .i64 d.2] rfl rfl (cells_new2' (by simp)) (by simp [Value.oneCell']) (fit1 hml) (fit2 hml) (by have := T.sz; simp; omega) ?_; intro v2 w2 hownw2 hgroww2 _; have Tw2 := T.push hownw2 hgroww2; clear hownw2 hgroww2; obtain ⟨e0, e1, e2, e3, _⟩ := heldP_S HP Tw2; have hbw2 := Tw2.blt)
            have hml3 : (M k ++ [d]).length ≤ 2000001 := by have := HMl.out k hk; simp; omega
            rcases hne with hne | ⟨hn1, hne⟩
            · go_quiet (fail)
              obtain ⟨w5, h5⟩ : ∃ w5, w5 = w2.drewN nq := ⟨_, rfl⟩
              have Tq : HeldP w d b off l v2 (M k ++ [d]) w5 := by rw [h5]; exact Tw2.drewN nq
              rw [← h5]
              clear h5 Tw2 e0 e1 e2 e3 hbw2
              obtain ⟨e0, e1, e2, e3, _⟩ := heldP_S HP Tq
              have hbq := Tq.blt
              go_wp2_with (at_builtin; refine wpList_append_own _ rfl _ _ 28 rfl (w.heap.size + 1) 25 i0 (.agg #[.int .i64 0, .int .i64 0]) 2 16 Tryd.underlying28 HI.out hz0 hz1 hz2 rfl (by decide) _ _ _ rfl (Tq.own.alloc _) ⟨w5.heap.size, 0, none⟩ 1 1 [.int .i64 p.1, .int .i64 p.2] rfl rfl (cells_new2' (by simp)) (by simp [Value.oneCell']) (fit1 hml3) (fit2 hml3) (by have := Tq.sz; simp; omega) ?_; intro v3 w3 hownw3 hgroww3 _; have Tw3 := Tq.push hownw3 hgroww3; clear hownw3 hgroww3)
              go_roundw
              case rel => exact ⟨k + 1, by omega, by go_num, .inr ⟨by omega, rfl⟩, by rw [HT.out]; exact Tw3⟩
              case measure => simp [intOf]; omega
            · go_quiet (fail)
              clear hn1 hne
              obtain ⟨w5, h5⟩ : ∃ w5, w5 = w2.drewN nq := ⟨_, rfl⟩
              have Tq : HeldP w d b off l v2 (M k ++ [d]) w5 := by rw [h5]; exact Tw2.drewN nq
              rw [← h5]
              clear h5 Tw2 e0 e1 e2 e3 hbw2
              obtain ⟨e0, e1, e2, e3, _⟩ := heldP_S HP Tq
              have hbq := Tq.blt
              go_wp2_with (at_builtin; refine wpList_append_own _ rfl _ _ 28 rfl (w.heap.size + 1) 25 i0 (.agg #[.int .i64 0, .int .i64 0]) 2 16 Tryd.underlying28 HI.out hz0 hz1 hz2 rfl (by decide) _ _ _ rfl (Tq.own.alloc _) ⟨w5.heap.size, 0, none⟩ 1 1 [.int .i64 p.1, .int .i64 p.2] rfl rfl (cells_new2' (by simp)) (by simp [Value.oneCell']) (fit1 hml3) (fit2 hml3) (by have := Tq.sz; simp; omega) ?_; intro v3 w3 hownw3 hgroww3 _; have Tw3 := Tq.push hownw3 hgroww3; clear hownw3 hgroww3)
              go_roundw
              case rel => exact ⟨k + 1, by omega, by go_num, .inr ⟨by omega, rfl⟩, by rw [HT.out]; exact Tw3⟩
              case measure => simp [intOf]; omega
      · have HT := Lib.hid (HM.out k p (by omega) hp)
        have TH := hH
        have hbw := hH.blt
        obtain ⟨c0, c1, c2, c3, _⟩ := hS
        clear hp HC hH
        go_wp2
        go_quiet (fail)
        obtain ⟨w5, h5⟩ : ∃ w5, w5 = wr.drewN nq := ⟨_, rfl⟩
        have Tq : HeldP w d b off l u5 (M k) w5 := by rw [h5]; exact TH.drewN nq
        rw [← h5]
        clear h5 TH c0 c1 c2 c3 hbw
        obtain ⟨e0, e1, e2, e3, _⟩ := heldP_S HP Tq
        have hbq := Tq.blt
        go_wp2_with (at_builtin; refine wpList_append_own _ rfl _ _ 28 rfl (w.heap.size + 1) 25 i0 (.agg #[.int .i64 0, .int .i64 0]) 2 16 Tryd.underlying28 HI.out hz0 hz1 hz2 rfl (by decide) _ _ _ rfl (Tq.own.alloc _) ⟨w5.heap.size, 0, none⟩ 1 1 [.int .i64 p.1, .int .i64 p.2] rfl rfl (cells_new2' (by simp)) (by simp [Value.oneCell']) (fit1 hml) (fit2 hml) (by have := Tq.sz; simp; omega) ?_; intro v3 w3 hownw3 hgroww3 _; have Tw3 := Tq.push hownw3 hgroww3; clear hownw3 hgroww3)
        go_roundw
        case rel => exact ⟨k + 1, by omega, by go_num, .inr ⟨by omega, rfl⟩, by rw [HT.out]; exact Tw3⟩
        case measure => simp [intOf]; omega
    · obtain rfl : k = l.length := by omega
      rcases hflag with ⟨hkB, rfl⟩ | ⟨hkB, rfl⟩
      · have hRe := HR.out
        rw [if_neg (by omega)] at hRe
        have TH := hH
        obtain ⟨⟨_, c0, c1⟩, _⟩ := hH
        have hRl : R.length ≤ 2000002 := by rw [hRe]; simp; omega
        have hR1 : 1 ≤ R.length := by rw [hRe]; simp
        have HRe := Lib.hid hRe
        clear hRe
        go_wp2_with (at_builtin; refine wpList_append_own _ rfl _ _ 28 rfl (w.heap.size + 1) 25 i0 (.agg #[.int .i64 0, .int .i64 0]) 2 16 Tryd.underlying28 HI.out hz0 hz1 hz2 rfl (by decide) _ _ _ rfl (TH.own.alloc _) ⟨wr.heap.size, 0, none⟩ 1 1 [.int .i64 d.1, .int .i64 d.2] rfl rfl (cells_new2' (by simp)) (by simp [Value.oneCell']) (fit1 hml) (fit2 hml) (by have := TH.sz; simp; omega) ?_; intro v3 w3 hownw3 hgroww3 _; have Tw3 := TH.push hownw3 hgroww3; clear hownw3 hgroww3; have TR : HeldP w d b off l v3 R w3 := (by rw [HRe.out]; exact Tw3); clear Tw3; obtain ⟨g, cp, cur, rfl, hbg, hgg, hnc, hcm2, hcs, htk⟩ := ownsRow_some TR.own (by omega); have hc63 : cp ≤ 9223372036854775807 := (by unfold maxLen at hcm2; omega); have HGG := Lib.hid hgg; have HCS := Lib.hid hcs; have HTK := Lib.hid htk; clear hgg hcs htk)
        go_ret
        have hm : (min (R.length : Int) 16).toNat = (R.take 16).length := by rw [List.length_take]; omega
        refine ⟨_, rfl, ⟨cells_len _, .inr ⟨g, cp, cur, by rw [hm]; rfl, by omega, HGG.out, by rw [List.length_take]; omega, hcm2, HCS.out, ?_⟩⟩, TR.2.2.2.2.2⟩
        rw [← cells_take 16 R, ← HTK.out, List.take_take, List.length_take]
        congr 1
        omega
      · have hRe := HR.out
        rw [if_pos hkB] at hRe
        have hR1 : 1 ≤ R.length := by rw [hRe]; exact HM1.out hkB
        have hRl : R.length ≤ 2000002 := by rw [hRe]; omega
        rw [← hRe] at hH
        have TR := hH
        clear hRe hH
        obtain ⟨g, cp, cur, rfl, hbg, hgg, hnc, hcm2, hcs, htk⟩ := ownsRow_some TR.own (by omega)
        have hc63 : cp ≤ 9223372036854775807 := by unfold maxLen at hcm2; omega
        have HGG := Lib.hid hgg
        have HCS := Lib.hid hcs
        have HTK := Lib.hid htk
        clear hgg hcs htk
        go_wp2
        go_ret
        have hm : (min (R.length : Int) 16).toNat = (R.take 16).length := by rw [List.length_take]; omega
        refine ⟨_, rfl, ⟨cells_len _, .inr ⟨g, cp, cur, by rw [hm]; rfl, by omega, HGG.out, by rw [List.length_take]; omega, hcm2, HCS.out, ?_⟩⟩, TR.2.2.2.2.2⟩
        rw [← cells_take 16 R, ← HTK.out, List.take_take, List.length_take]
        congr 1
        omega
#print axioms Tryd.rPut_some
end Go.Proofs
