/- The law HeadPrints. Conditions: HeadC; the variables' words T. -/
import Derived.Test.YtmmmgljekoebpaaDoorG07
namespace Go.Proofs
open Go.RowKit Go.Shelf Go.Hdr Go.Fx Go.Wds Go.Metric Go.Layout Go.Cur
attribute [local go_sem] Oper.semAt_some
set_option maxRecDepth 100000 in
set_option maxHeartbeats 8000000 in
theorem Tryd.HeadPrints_calls {T : World → Prop} (H : Tryd.HeadC T) (h : Hd) (w : World) (hT0 : T w) : Calls Tryd.prog 3 #[hdV h] w fun e w' => e = .returned (.bool true) ∧ Below w.heap.size w w' := by
  have HT : Hid (∀ W, Below w.heap.size w W → T W) := fun W hW => H.keep w W hT0 hW
  have HSH := Lib.hid fun W h => Tryd.shown14_calls H W h
  by_cases h1 : h.name.size ≤ 100
  · have n1 : ¬ (100 : Int) < (h.name.size : Int) := by omega
    have HMA := Lib.hid fun W hW => H.may h W (by omega) hW
    have HMR := Lib.hid fun W => Tryd.rhmay_calls h W (by omega)
    have HPR := Lib.hid fun W hW => H.print h W (by omega) hW
    have HRP := Lib.hid fun W => Tryd.rprint_calls h W (by omega)
    generalize mayH h = mb at *
    generalize printE h = P at *
    obtain ⟨nm, k, d, c, m, l⟩ := h
    simp only at n1
    simp only [hdV] at HMA HMR HPR HRP ⊢
    have HB0 := Lib.hid (below_one_h w (.cells #[.string nm, .int .i64 k, .int .i64 d, .int .i64 c, .int .i64 m, .int .i64 l] 23))
    have HX0 := Lib.hid (World.alloc_heap_new w (.cells #[.string nm, .int .i64 k, .int .i64 d, .int .i64 c, .int .i64 m, .int .i64 l] 23))
    clear H hT0 h1
    go_enter Tryd.func3, Tryd.ntmps3
    go_upto_region 3 with (go_at_call 9; (with_reducible refine (HSH.out _ (HT.out _ HB0.out)).mono ?_); rintro e w1 ⟨rfl, hb1⟩; have HB1 := Lib.hid (hstep HB0.out hb1); have HX1 := Lib.hid (hbox_next HX0.out hb1); clear hb1)
    go_upto_region 3 with (fail)
    have N0 := below_drew_h HB1.out
    have n0 : w1.drew.heap[w.heap.size]? = _ := HX1.out
    refine wp_region_held_drew (S := fun V => V.heap[w.heap.size]? = some (.cells #[.string nm, .int .i64 k, .int .i64 d, .int .i64 c, .int .i64 m, .int .i64 l] 23)) (by kernel_rfl) (n0) (fun hHeld0 => ?_)
    clear hHeld0
    generalize w1.drew = V0 at *
    refine wpAnyH_take (i := 0) (v := ?_) rfl (by kernel_rfl) (by kernel_rfl) (by kernel_rfl) (fun _ _ _ h => h) (Or.inl ⟨by kernel_rfl, ?_⟩) (n0) ?_
    rotate_left
    · (intro w0 hSw; (try dsimp only at hSw); have x0 : w0.cell? ⟨w.heap.size, 0, none⟩ = some (.string nm) := (hbox_cell hSw 0).1; have x1 : w0.cell? ⟨w.heap.size, 1, none⟩ = some (.int .i64 k) := (hbox_cell hSw 1).1; have x2 : w0.cell? ⟨w.heap.size, 2, none⟩ = some (.int .i64 d) := (hbox_cell hSw 2).1; have x3 : w0.cell? ⟨w.heap.size, 3, none⟩ = some (.int .i64 c) := (hbox_cell hSw 3).1; have x4 : w0.cell? ⟨w.heap.size, 4, none⟩ = some (.int .i64 m) := (hbox_cell hSw 4).1; have x5 : w0.cell? ⟨w.heap.size, 5, none⟩ = some (.int .i64 l) := (hbox_cell hSw 5).1; go_simp; try with_reducible rfl)
    try dsimp only [List.getElem_toArray, List.getElem_cons_succ, List.getElem_cons_zero, Act.put]
    try simp only [List.setIfInBounds_toArray, List.set_cons_zero, List.set_cons_succ]
    refine wpAnyH_take (i := 2) (v := ?_) rfl (by kernel_rfl) (by kernel_rfl) (by kernel_rfl) (fun _ _ _ h => h) (Or.inl ⟨by kernel_rfl, ?_⟩) (n0) ?_
    rotate_left
    · (intro w0 hSw; (try dsimp only at hSw); have x0 : w0.cell? ⟨w.heap.size, 0, none⟩ = some (.string nm) := (hbox_cell hSw 0).1; have x1 : w0.cell? ⟨w.heap.size, 1, none⟩ = some (.int .i64 k) := (hbox_cell hSw 1).1; have x2 : w0.cell? ⟨w.heap.size, 2, none⟩ = some (.int .i64 d) := (hbox_cell hSw 2).1; have x3 : w0.cell? ⟨w.heap.size, 3, none⟩ = some (.int .i64 c) := (hbox_cell hSw 3).1; have x4 : w0.cell? ⟨w.heap.size, 4, none⟩ = some (.int .i64 m) := (hbox_cell hSw 4).1; have x5 : w0.cell? ⟨w.heap.size, 5, none⟩ = some (.int .i64 l) := (hbox_cell hSw 5).1; go_simp; try with_reducible rfl)
    try dsimp only [List.getElem_toArray, List.getElem_cons_succ, List.getElem_cons_zero, Act.put]
    try simp only [List.setIfInBounds_toArray, List.set_cons_zero, List.set_cons_succ]
    refine wpAnyH_ready (rs := [1]) (by kernel_rfl) (by simp) (AllReadyH.cons rfl (fun KK hKK => ?_) AllReadyH.nil)
    go_simp
    go_at_call 10
    (with_reducible refine (HMA.out _ (HT.out _ N0)).mono ?_)
    rintro e W1 ⟨rfl, hb⟩
    have N1 := hstep N0 hb
    have n1 := hbox_next n0 hb
    refine hKK.out _ _ (n1) (fun _ => ?_)
    clear hKK KK
    try dsimp only [List.getElem_toArray, List.getElem_cons_succ, List.getElem_cons_zero, Act.put]
    try simp only [List.setIfInBounds_toArray, List.set_cons_zero, List.set_cons_succ]
    clear N0 n0 hb
    refine wpAnyH_ready (rs := [3]) (by kernel_rfl) (by simp) (AllReadyH.cons rfl (fun KK hKK => ?_) AllReadyH.nil)
    go_simp
    go_at_call 11
    (with_reducible refine (HMR.out _).mono ?_)
    rintro e W2 ⟨rfl, hb⟩
    have N2 := hstep N1 hb
    have n2 := hbox_next n1 hb
    refine hKK.out _ _ (n2) (fun _ => ?_)
    clear hKK KK
    try dsimp only [List.getElem_toArray, List.getElem_cons_succ, List.getElem_cons_zero, Act.put]
    try simp only [List.setIfInBounds_toArray, List.set_cons_zero, List.set_cons_succ]
    clear N1 n1 hb
    refine wpAnyH_take (i := 4) (v := .bool true) rfl (by kernel_rfl) (by kernel_rfl) (by kernel_rfl) (fun _ _ _ h => h) (Or.inl ⟨by kernel_rfl, ?_⟩) (n2) ?_
    · (intro w0 hSw; (try dsimp only at hSw); have x0 : w0.cell? ⟨w.heap.size, 0, none⟩ = some (.string nm) := (hbox_cell hSw 0).1; have x1 : w0.cell? ⟨w.heap.size, 1, none⟩ = some (.int .i64 k) := (hbox_cell hSw 1).1; have x2 : w0.cell? ⟨w.heap.size, 2, none⟩ = some (.int .i64 d) := (hbox_cell hSw 2).1; have x3 : w0.cell? ⟨w.heap.size, 3, none⟩ = some (.int .i64 c) := (hbox_cell hSw 3).1; have x4 : w0.cell? ⟨w.heap.size, 4, none⟩ = some (.int .i64 m) := (hbox_cell hSw 4).1; have x5 : w0.cell? ⟨w.heap.size, 5, none⟩ = some (.int .i64 l) := (hbox_cell hSw 5).1; go_simp <;> first | rfl | simp)
    try dsimp only [List.getElem_toArray, List.getElem_cons_succ, List.getElem_cons_zero, Act.put]
    try simp only [List.setIfInBounds_toArray, List.set_cons_zero, List.set_cons_succ]
    refine wpAnyH_take (i := 5) (v := ?_) rfl (by kernel_rfl) (by kernel_rfl) (by kernel_rfl) (fun _ _ _ h => h) (Or.inl ⟨by kernel_rfl, ?_⟩) (n2) ?_
    rotate_left
    · (intro w0 hSw; (try dsimp only at hSw); have x0 : w0.cell? ⟨w.heap.size, 0, none⟩ = some (.string nm) := (hbox_cell hSw 0).1; have x1 : w0.cell? ⟨w.heap.size, 1, none⟩ = some (.int .i64 k) := (hbox_cell hSw 1).1; have x2 : w0.cell? ⟨w.heap.size, 2, none⟩ = some (.int .i64 d) := (hbox_cell hSw 2).1; have x3 : w0.cell? ⟨w.heap.size, 3, none⟩ = some (.int .i64 c) := (hbox_cell hSw 3).1; have x4 : w0.cell? ⟨w.heap.size, 4, none⟩ = some (.int .i64 m) := (hbox_cell hSw 4).1; have x5 : w0.cell? ⟨w.heap.size, 5, none⟩ = some (.int .i64 l) := (hbox_cell hSw 5).1; go_simp; try with_reducible rfl)
    try dsimp only [List.getElem_toArray, List.getElem_cons_succ, List.getElem_cons_zero, Act.put]
    try simp only [List.setIfInBounds_toArray, List.set_cons_zero, List.set_cons_succ]
    refine wpAnyH_take (i := 6) (v := ?_) rfl (by kernel_rfl) (by kernel_rfl) (by kernel_rfl) (fun _ _ _ h => h) (Or.inl ⟨by kernel_rfl, ?_⟩) (n2) ?_
    rotate_left
    · (intro w0 hSw; (try dsimp only at hSw); have x0 : w0.cell? ⟨w.heap.size, 0, none⟩ = some (.string nm) := (hbox_cell hSw 0).1; have x1 : w0.cell? ⟨w.heap.size, 1, none⟩ = some (.int .i64 k) := (hbox_cell hSw 1).1; have x2 : w0.cell? ⟨w.heap.size, 2, none⟩ = some (.int .i64 d) := (hbox_cell hSw 2).1; have x3 : w0.cell? ⟨w.heap.size, 3, none⟩ = some (.int .i64 c) := (hbox_cell hSw 3).1; have x4 : w0.cell? ⟨w.heap.size, 4, none⟩ = some (.int .i64 m) := (hbox_cell hSw 4).1; have x5 : w0.cell? ⟨w.heap.size, 5, none⟩ = some (.int .i64 l) := (hbox_cell hSw 5).1; go_simp; try with_reducible rfl)
    try dsimp only [List.getElem_toArray, List.getElem_cons_succ, List.getElem_cons_zero, Act.put]
    try simp only [List.setIfInBounds_toArray, List.set_cons_zero, List.set_cons_succ]
    refine wpAnyH_take (i := 8) (v := ?_) rfl (by kernel_rfl) (by kernel_rfl) (by kernel_rfl) (fun _ _ _ h => h) (Or.inl ⟨by kernel_rfl, ?_⟩) (n2) ?_
    rotate_left
    · (intro w0 hSw; (try dsimp only at hSw); have x0 : w0.cell? ⟨w.heap.size, 0, none⟩ = some (.string nm) := (hbox_cell hSw 0).1; have x1 : w0.cell? ⟨w.heap.size, 1, none⟩ = some (.int .i64 k) := (hbox_cell hSw 1).1; have x2 : w0.cell? ⟨w.heap.size, 2, none⟩ = some (.int .i64 d) := (hbox_cell hSw 2).1; have x3 : w0.cell? ⟨w.heap.size, 3, none⟩ = some (.int .i64 c) := (hbox_cell hSw 3).1; have x4 : w0.cell? ⟨w.heap.size, 4, none⟩ = some (.int .i64 m) := (hbox_cell hSw 4).1; have x5 : w0.cell? ⟨w.heap.size, 5, none⟩ = some (.int .i64 l) := (hbox_cell hSw 5).1; go_simp; try with_reducible rfl)
    try dsimp only [List.getElem_toArray, List.getElem_cons_succ, List.getElem_cons_zero, Act.put]
    try simp only [List.setIfInBounds_toArray, List.set_cons_zero, List.set_cons_succ]
    refine wpAnyH_ready (rs := [7]) (by kernel_rfl) (by simp) (AllReadyH.cons rfl (fun KK hKK => ?_) AllReadyH.nil)
    go_simp
    go_at_call 12
    (with_reducible refine (HPR.out _ (HT.out _ N2)).mono ?_)
    rintro e W3 ⟨rfl, hb⟩
    have N3 := hstep N2 hb
    have n3 := hbox_next n2 hb
    refine hKK.out _ _ (n3) (fun _ => ?_)
    clear hKK KK
    try dsimp only [List.getElem_toArray, List.getElem_cons_succ, List.getElem_cons_zero, Act.put]
    try simp only [List.setIfInBounds_toArray, List.set_cons_zero, List.set_cons_succ]
    clear N2 n2 hb
    refine wpAnyH_ready (rs := [9]) (by kernel_rfl) (by simp) (AllReadyH.cons rfl (fun KK hKK => ?_) AllReadyH.nil)
    go_simp
    go_at_call 13
    (with_reducible refine (HRP.out _).mono ?_)
    rintro e W4 ⟨rfl, hb⟩
    have N4 := hstep N3 hb
    have n4 := hbox_next n3 hb
    refine hKK.out _ _ (n4) (fun _ => ?_)
    clear hKK KK
    try dsimp only [List.getElem_toArray, List.getElem_cons_succ, List.getElem_cons_zero, Act.put]
    try simp only [List.setIfInBounds_toArray, List.set_cons_zero, List.set_cons_succ]
    clear N3 n3 hb
    refine wpAnyH_take (i := 10) (v := .bool true) rfl (by kernel_rfl) (by kernel_rfl) (by kernel_rfl) (fun _ _ _ h => h) (Or.inl ⟨by kernel_rfl, ?_⟩) (n4) ?_
    · (intro w0 hSw; (try dsimp only at hSw); have x0 : w0.cell? ⟨w.heap.size, 0, none⟩ = some (.string nm) := (hbox_cell hSw 0).1; have x1 : w0.cell? ⟨w.heap.size, 1, none⟩ = some (.int .i64 k) := (hbox_cell hSw 1).1; have x2 : w0.cell? ⟨w.heap.size, 2, none⟩ = some (.int .i64 d) := (hbox_cell hSw 2).1; have x3 : w0.cell? ⟨w.heap.size, 3, none⟩ = some (.int .i64 c) := (hbox_cell hSw 3).1; have x4 : w0.cell? ⟨w.heap.size, 4, none⟩ = some (.int .i64 m) := (hbox_cell hSw 4).1; have x5 : w0.cell? ⟨w.heap.size, 5, none⟩ = some (.int .i64 l) := (hbox_cell hSw 5).1; go_simp <;> first | rfl | simp)
    try dsimp only [List.getElem_toArray, List.getElem_cons_succ, List.getElem_cons_zero, Act.put]
    try simp only [List.setIfInBounds_toArray, List.set_cons_zero, List.set_cons_succ]
    refine wpAnyH_take (i := 11) (v := ?_) rfl (by kernel_rfl) (by kernel_rfl) (by kernel_rfl) (fun _ _ _ h => h) (Or.inl ⟨by kernel_rfl, ?_⟩) (n4) ?_
    rotate_left
    · (intro w0 hSw; (try dsimp only at hSw); have x0 : w0.cell? ⟨w.heap.size, 0, none⟩ = some (.string nm) := (hbox_cell hSw 0).1; have x1 : w0.cell? ⟨w.heap.size, 1, none⟩ = some (.int .i64 k) := (hbox_cell hSw 1).1; have x2 : w0.cell? ⟨w.heap.size, 2, none⟩ = some (.int .i64 d) := (hbox_cell hSw 2).1; have x3 : w0.cell? ⟨w.heap.size, 3, none⟩ = some (.int .i64 c) := (hbox_cell hSw 3).1; have x4 : w0.cell? ⟨w.heap.size, 4, none⟩ = some (.int .i64 m) := (hbox_cell hSw 4).1; have x5 : w0.cell? ⟨w.heap.size, 5, none⟩ = some (.int .i64 l) := (hbox_cell hSw 5).1; go_simp; try with_reducible rfl)
    try dsimp only [List.getElem_toArray, List.getElem_cons_succ, List.getElem_cons_zero, Act.put]
    try simp only [List.setIfInBounds_toArray, List.set_cons_zero, List.set_cons_succ]
    refine wpAnyH_take (i := 12) (v := ?_) rfl (by kernel_rfl) (by kernel_rfl) (by kernel_rfl) (fun _ _ _ h => h) (Or.inl ⟨by kernel_rfl, ?_⟩) (n4) ?_
    rotate_left
    · (intro w0 hSw; (try dsimp only at hSw); have x0 : w0.cell? ⟨w.heap.size, 0, none⟩ = some (.string nm) := (hbox_cell hSw 0).1; have x1 : w0.cell? ⟨w.heap.size, 1, none⟩ = some (.int .i64 k) := (hbox_cell hSw 1).1; have x2 : w0.cell? ⟨w.heap.size, 2, none⟩ = some (.int .i64 d) := (hbox_cell hSw 2).1; have x3 : w0.cell? ⟨w.heap.size, 3, none⟩ = some (.int .i64 c) := (hbox_cell hSw 3).1; have x4 : w0.cell? ⟨w.heap.size, 4, none⟩ = some (.int .i64 m) := (hbox_cell hSw 4).1; have x5 : w0.cell? ⟨w.heap.size, 5, none⟩ = some (.int .i64 l) := (hbox_cell hSw 5).1; go_simp; try with_reducible rfl)
    try dsimp only [List.getElem_toArray, List.getElem_cons_succ, List.getElem_cons_zero, Act.put]
    try simp only [List.setIfInBounds_toArray, List.set_cons_zero, List.set_cons_succ]
    refine wpAnyH_done (by kernel_rfl) ?_ _
    try dsimp only [List.getElem_toArray, List.getElem_cons_succ, List.getElem_cons_zero, Act.put]
    try simp only [List.setIfInBounds_toArray, List.set_cons_zero, List.set_cons_succ]
    go_wp2
    go_ret
    exact ⟨rfl, N4⟩
  · have n1 : (100 : Int) < (h.name.size : Int) := by omega
    obtain ⟨nm, k, d, c, m, l⟩ := h
    simp only at n1
    simp only [hdV]
    have HB0 := Lib.hid (below_one_h w (.cells #[.string nm, .int .i64 k, .int .i64 d, .int .i64 c, .int .i64 m, .int .i64 l] 23))
    clear H hT0 h1
    go_enter Tryd.func3, Tryd.ntmps3
    go_wp2_with (go_at_call 9; (with_reducible refine (HSH.out _ (HT.out _ HB0.out)).mono ?_); rintro e w1 ⟨rfl, hb1⟩)
    go_ret
    exact ⟨rfl, hstep HB0.out hb1⟩
end Go.Proofs
