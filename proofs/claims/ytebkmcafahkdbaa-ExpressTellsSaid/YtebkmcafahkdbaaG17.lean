/- The landed express.Lacks, format by format. Conditions: a million nodes at most. -/
import Derived.Test.YtebkmcafahkdbaaG16
import Derived.Test.YtebkmcafahkdbaaG09
namespace Go.Proofs
open Go.RowKit Go.Shelf Go.Canon Go.Expr
attribute [local go_sem] Oper.semAt_some
theorem LbS.drew {w W : World} {x : Ins} {vn vm : Value} (h : LbS w x vn vm W) : LbS w x vn vm W.drew := h.next (edrew_below (Below.refl _ _))
theorem lcell (W : World) (cs : Array Value) (t : TypeId) (j : Nat) : (W.alloc (.cells cs t)).cell? ⟨W.heap.size, j, none⟩ = cs[j]? := by
  unfold World.cell?
  rw [World.alloc_heap_new]
  rfl
theorem nums_lit (W : World) (l : List Int) (hl : l.length ≤ 100) : HasNums (W.alloc (.cells (l.map intV).toArray 3)) (.slice (some ⟨W.heap.size, 0, none⟩) l.length l.length) l := by
  refine .inr ⟨W.heap.size, 0, l.length, rfl, Nat.le_refl _, by unfold maxLen; omega, by simp, fun i x hi => ?_⟩
  rw [lcell]
  simp [hi, intV]
set_option maxRecDepth 100000 in
set_option maxHeartbeats 4000000 in
theorem Try.lacks_1 (x : Ins) (vn vm : Value) (w : World) (hx : HasIns w vn vm x) (HL : x.nodes.length ≤ 1000000) :
    Calls Try.prog 9 #[.int .i64 1, insV x vn vm] w fun e w' => ∃ v', e = .returned v' ∧ HasInts w' v' (toldE [(2, decide (x.kind ∈ ([1, 2] : List Int))), (3, decide (x.metric ≠ 6) && metricB x.metric), (6, decide (x.fleet = 0)), (10, x.nodes.all fun d => decide (0 ≤ d.demand)), (11, x.nodes.all fun d => decide (d.ready = 0 ∧ d.due = 0)), (12, x.nodes.all fun d => decide (d.service = 0)), (13, x.nodes.all fun d => decide (d.mate = 0))]) ∧ Below w.heap.size w w' := by
  have HX := Lib.hid hx
  obtain ⟨an, cn, rfl, _⟩ := hx.nodes.dat
  obtain ⟨am, cm, rfl, _⟩ := hx.matrix.dat
  unfold insV
  have Hdemands := Lib.hid fun W h => Try.demands_calls (x := x) (vn := .slice an x.nodes.length cn) (vm := .slice am x.matrix.length cm) W h HL
  have HnoWindows := Lib.hid fun W h => Try.noWindows_calls (x := x) (vn := .slice an x.nodes.length cn) (vm := .slice am x.matrix.length cm) W h HL
  have HnoService := Lib.hid fun W h => Try.noService_calls (x := x) (vn := .slice an x.nodes.length cn) (vm := .slice am x.matrix.length cm) W h HL
  have HnoMates := Lib.hid fun W h => Try.noMates_calls (x := x) (vn := .slice an x.nodes.length cn) (vm := .slice am x.matrix.length cm) W h HL
  clear hx HL
  obtain ⟨kk, hkk⟩ : ∃ k, toldE [(2, decide (x.kind ∈ ([1, 2] : List Int))), (3, decide (x.metric ≠ 6) && metricB x.metric), (6, decide (x.fleet = 0)), (10, x.nodes.all fun d => decide (0 ≤ d.demand)), (11, x.nodes.all fun d => decide (d.ready = 0 ∧ d.due = 0)), (12, x.nodes.all fun d => decide (d.service = 0)), (13, x.nodes.all fun d => decide (d.mate = 0))] = k := ⟨_, rfl⟩
  rw [hkk]
  have HKK := Lib.hid hkk
  clear hkk
  generalize x.nodes.length = L at *
  generalize x.matrix.length = M at *
  have HS := Lib.hid (LbS.new w x (.slice an L cn) (.slice am M cm))
  go_enter Try.func9, Try.ntmps9
  go_upto_region 4 with (fail)
  have N0 := HS.out.drew
  refine wp_region_held_drew (S := fun V => LbS w x (.slice an L cn) (.slice am M cm) V) (by kernel_rfl) N0 (fun hHeld0 => ?_)
  clear hHeld0
  have S0 := Lib.hid N0
  generalize (w.alloc (.cells #[.string x.name, .int .i64 x.kind, .int .i64 x.metric, .int .i64 x.scale, .int .i64 x.cap, .int .i64 x.fleet, .slice an L cn, .slice am M cm] 25)).drew = V0 at *
  clear HS
  refine wpAnyH_take (i := 0) (v := ?_) rfl (by kernel_rfl) (by kernel_rfl) (by kernel_rfl) (fun _ _ _ h => h) (Or.inl ⟨by kernel_rfl, ?_⟩) N0 ?_
  rotate_left
  · (intro w0 hSw; (try dsimp only at hSw); obtain ⟨d0, d1, d2, d3, d4, d5, d6, d7⟩ := hSw.box.cells; go_simp; try with_reducible rfl)
  try dsimp only [List.getElem_toArray, List.getElem_cons_succ, List.getElem_cons_zero, Act.put]
  try simp only [List.setIfInBounds_toArray, List.set_cons_zero, List.set_cons_succ]
  clear N0
  refine wpAnyH_ready (rs := [1]) (by kernel_rfl) (by simp) (AllReadyH.cons rfl (fun K hK => ?_) AllReadyH.nil)
  go_simp
  have hb := fbelow_box V0 (.cells #[.int .i64 1, .int .i64 2] 3)
  have S1 := Lib.hid (S0.out.next hb)
  have HN := Lib.hid (nums_lit V0 [1, 2] (by simp))
  simp only [List.map_cons, List.map_nil, List.length_cons, List.length_nil, Nat.zero_add, Nat.reduceAdd, intV] at HN
  refine hK.out _ _ S1.out (fun _ => ?_)
  clear hK K hb S0
  try dsimp only [List.getElem_toArray, List.getElem_cons_succ, List.getElem_cons_zero, Act.put]
  try simp only [List.setIfInBounds_toArray, List.set_cons_zero, List.set_cons_succ]
  obtain ⟨U1, hU⟩ : ∃ U, U = V0.alloc (.cells #[.int .i64 1, .int .i64 2] 3) := ⟨_, rfl⟩
  rw [← hU] at S1 HN ⊢
  clear hU
  refine wpAnyH_ready (rs := [2]) (by kernel_rfl) (by simp) (AllReadyH.cons rfl (fun K hK => ?_) AllReadyH.nil)
  go_simp
  go_at_call 17
  (with_reducible refine (Try.kindAmong_calls _ (HX.out.next S1.out.below) (by simp) HN.out).mono ?_)
  rintro e W2 ⟨vkind, rfl, hv, hb⟩
  have S2 := Lib.hid (S1.out.next hb)
  have Lkind := Lib.hid hv
  obtain ⟨gkind, lbkind, rfl, _, _⟩ := hv
  refine hK.out _ _ S2.out (fun _ => ?_)
  clear hK K hb S1
  try dsimp only [List.getElem_toArray, List.getElem_cons_succ, List.getElem_cons_zero, Act.put]
  try simp only [List.setIfInBounds_toArray, List.set_cons_zero, List.set_cons_succ]
  refine wpAnyH_ready (rs := [3]) (by kernel_rfl) (by simp) (AllReadyH.cons rfl (fun K hK => ?_) AllReadyH.nil)
  go_simp
  go_at_call 18
  (with_reducible refine (Try.keyword_calls _ (HX.out.next S2.out.below)).mono ?_)
  rintro e W3 ⟨vkeyword, rfl, hv, hb⟩
  replace Lkind := Lib.hid (Lkind.out.later hb)
  have S3 := Lib.hid (S2.out.next hb)
  have Lkeyword := Lib.hid hv
  obtain ⟨gkeyword, lbkeyword, rfl, _, _⟩ := hv
  refine hK.out _ _ S3.out (fun _ => ?_)
  clear hK K hb S2
  try dsimp only [List.getElem_toArray, List.getElem_cons_succ, List.getElem_cons_zero, Act.put]
  try simp only [List.setIfInBounds_toArray, List.set_cons_zero, List.set_cons_succ]
  refine wpAnyH_ready (rs := [4]) (by kernel_rfl) (by simp) (AllReadyH.cons rfl (fun K hK => ?_) AllReadyH.nil)
  go_simp
  go_at_call 19
  (with_reducible refine (Try.anyFleet_calls _ (HX.out.next S3.out.below)).mono ?_)
  rintro e W4 ⟨vanyFleet, rfl, hv, hb⟩
  replace Lkind := Lib.hid (Lkind.out.later hb)
  replace Lkeyword := Lib.hid (Lkeyword.out.later hb)
  have S4 := Lib.hid (S3.out.next hb)
  have LanyFleet := Lib.hid hv
  obtain ⟨ganyFleet, lbanyFleet, rfl, _, _⟩ := hv
  refine hK.out _ _ S4.out (fun _ => ?_)
  clear hK K hb S3
  try dsimp only [List.getElem_toArray, List.getElem_cons_succ, List.getElem_cons_zero, Act.put]
  try simp only [List.setIfInBounds_toArray, List.set_cons_zero, List.set_cons_succ]
  refine wpAnyH_ready (rs := [5]) (by kernel_rfl) (by simp) (AllReadyH.cons rfl (fun K hK => ?_) AllReadyH.nil)
  go_simp
  go_at_call 20
  (with_reducible refine (Hdemands.out _ (HX.out.next S4.out.below)).mono ?_)
  rintro e W5 ⟨vdemands, rfl, hv, hb⟩
  replace Lkind := Lib.hid (Lkind.out.later hb)
  replace Lkeyword := Lib.hid (Lkeyword.out.later hb)
  replace LanyFleet := Lib.hid (LanyFleet.out.later hb)
  have S5 := Lib.hid (S4.out.next hb)
  have Ldemands := Lib.hid hv
  obtain ⟨gdemands, lbdemands, rfl, _, _⟩ := hv
  refine hK.out _ _ S5.out (fun _ => ?_)
  clear hK K hb S4
  try dsimp only [List.getElem_toArray, List.getElem_cons_succ, List.getElem_cons_zero, Act.put]
  try simp only [List.setIfInBounds_toArray, List.set_cons_zero, List.set_cons_succ]
  refine wpAnyH_ready (rs := [6]) (by kernel_rfl) (by simp) (AllReadyH.cons rfl (fun K hK => ?_) AllReadyH.nil)
  go_simp
  go_at_call 21
  (with_reducible refine (HnoWindows.out _ (HX.out.next S5.out.below)).mono ?_)
  rintro e W6 ⟨vnoWindows, rfl, hv, hb⟩
  replace Lkind := Lib.hid (Lkind.out.later hb)
  replace Lkeyword := Lib.hid (Lkeyword.out.later hb)
  replace LanyFleet := Lib.hid (LanyFleet.out.later hb)
  replace Ldemands := Lib.hid (Ldemands.out.later hb)
  have S6 := Lib.hid (S5.out.next hb)
  have LnoWindows := Lib.hid hv
  obtain ⟨gnoWindows, lbnoWindows, rfl, _, _⟩ := hv
  refine hK.out _ _ S6.out (fun _ => ?_)
  clear hK K hb S5
  try dsimp only [List.getElem_toArray, List.getElem_cons_succ, List.getElem_cons_zero, Act.put]
  try simp only [List.setIfInBounds_toArray, List.set_cons_zero, List.set_cons_succ]
  refine wpAnyH_ready (rs := [7]) (by kernel_rfl) (by simp) (AllReadyH.cons rfl (fun K hK => ?_) AllReadyH.nil)
  go_simp
  go_at_call 22
  (with_reducible refine (HnoService.out _ (HX.out.next S6.out.below)).mono ?_)
  rintro e W7 ⟨vnoService, rfl, hv, hb⟩
  replace Lkind := Lib.hid (Lkind.out.later hb)
  replace Lkeyword := Lib.hid (Lkeyword.out.later hb)
  replace LanyFleet := Lib.hid (LanyFleet.out.later hb)
  replace Ldemands := Lib.hid (Ldemands.out.later hb)
  replace LnoWindows := Lib.hid (LnoWindows.out.later hb)
  have S7 := Lib.hid (S6.out.next hb)
  have LnoService := Lib.hid hv
  obtain ⟨gnoService, lbnoService, rfl, _, _⟩ := hv
  refine hK.out _ _ S7.out (fun _ => ?_)
  clear hK K hb S6
  try dsimp only [List.getElem_toArray, List.getElem_cons_succ, List.getElem_cons_zero, Act.put]
  try simp only [List.setIfInBounds_toArray, List.set_cons_zero, List.set_cons_succ]
  refine wpAnyH_ready (rs := [8]) (by kernel_rfl) (by simp) (AllReadyH.cons rfl (fun K hK => ?_) AllReadyH.nil)
  go_simp
  go_at_call 23
  (with_reducible refine (HnoMates.out _ (HX.out.next S7.out.below)).mono ?_)
  rintro e W8 ⟨vnoMates, rfl, hv, hb⟩
  replace Lkind := Lib.hid (Lkind.out.later hb)
  replace Lkeyword := Lib.hid (Lkeyword.out.later hb)
  replace LanyFleet := Lib.hid (LanyFleet.out.later hb)
  replace Ldemands := Lib.hid (Ldemands.out.later hb)
  replace LnoWindows := Lib.hid (LnoWindows.out.later hb)
  replace LnoService := Lib.hid (LnoService.out.later hb)
  have S8 := Lib.hid (S7.out.next hb)
  have LnoMates := Lib.hid hv
  obtain ⟨gnoMates, lbnoMates, rfl, _, _⟩ := hv
  refine hK.out _ _ S8.out (fun _ => ?_)
  clear hK K hb S7
  try dsimp only [List.getElem_toArray, List.getElem_cons_succ, List.getElem_cons_zero, Act.put]
  try simp only [List.setIfInBounds_toArray, List.set_cons_zero, List.set_cons_succ]
  refine wpAnyH_ready (rs := [9]) (by kernel_rfl) (by simp) (AllReadyH.cons rfl (fun K hK => ?_) AllReadyH.nil)
  go_simp
  have hb := fbelow_box W8 (.cells #[.func (.func gkind) #[] lbkind, .func (.func gkeyword) #[] lbkeyword, .func (.func ganyFleet) #[] lbanyFleet, .func (.func gdemands) #[] lbdemands, .func (.func gnoWindows) #[] lbnoWindows, .func (.func gnoService) #[] lbnoService, .func (.func gnoMates) #[] lbnoMates] 43)
  have S9 := Lib.hid (S8.out.next hb)
  have HH : Hid (HoldL x (.slice an L cn) (.slice am M cm) W8.heap.size [(2, decide (x.kind ∈ ([1, 2] : List Int))), (3, decide (x.metric ≠ 6) && metricB x.metric), (6, decide (x.fleet = 0)), (10, x.nodes.all fun d => decide (0 ≤ d.demand)), (11, x.nodes.all fun d => decide (d.ready = 0 ∧ d.due = 0)), (12, x.nodes.all fun d => decide (d.service = 0)), (13, x.nodes.all fun d => decide (d.mate = 0))] (W8.alloc (.cells #[.func (.func gkind) #[] lbkind, .func (.func gkeyword) #[] lbkeyword, .func (.func ganyFleet) #[] lbanyFleet, .func (.func gdemands) #[] lbdemands, .func (.func gnoWindows) #[] lbnoWindows, .func (.func gnoService) #[] lbnoService, .func (.func gnoMates) #[] lbnoMates] 43))) := by
    refine ⟨S9.out.below.size |> fun _ => by simp, fun i p hp => ?_⟩
    rcases i with _ | i
    · obtain rfl : _ = p := Option.some.inj hp
      exact ⟨_, lcell _ _ _ _, Lkind.out.later hb⟩
    rcases i with _ | i
    · obtain rfl : _ = p := Option.some.inj hp
      exact ⟨_, lcell _ _ _ _, Lkeyword.out.later hb⟩
    rcases i with _ | i
    · obtain rfl : _ = p := Option.some.inj hp
      exact ⟨_, lcell _ _ _ _, LanyFleet.out.later hb⟩
    rcases i with _ | i
    · obtain rfl : _ = p := Option.some.inj hp
      exact ⟨_, lcell _ _ _ _, Ldemands.out.later hb⟩
    rcases i with _ | i
    · obtain rfl : _ = p := Option.some.inj hp
      exact ⟨_, lcell _ _ _ _, LnoWindows.out.later hb⟩
    rcases i with _ | i
    · obtain rfl : _ = p := Option.some.inj hp
      exact ⟨_, lcell _ _ _ _, LnoService.out.later hb⟩
    rcases i with _ | i
    · obtain rfl : _ = p := Option.some.inj hp
      exact ⟨_, lcell _ _ _ _, LnoMates.out.later hb⟩
    simp at hp
  refine hK.out _ _ S9.out (fun _ => ?_)
  clear hK K hb
  try dsimp only [List.getElem_toArray, List.getElem_cons_succ, List.getElem_cons_zero, Act.put]
  try simp only [List.setIfInBounds_toArray, List.set_cons_zero, List.set_cons_succ]
  obtain ⟨U9, hU⟩ : ∃ U, U = W8.alloc (.cells #[.func (.func gkind) #[] lbkind, .func (.func gkeyword) #[] lbkeyword, .func (.func ganyFleet) #[] lbanyFleet, .func (.func gdemands) #[] lbdemands, .func (.func gnoWindows) #[] lbnoWindows, .func (.func gnoService) #[] lbnoService, .func (.func gnoMates) #[] lbnoMates] 43) := ⟨_, rfl⟩
  rw [← hU] at S9 HH ⊢
  clear hU
  have HLK := Lib.hid fun c => Try.lacking_calls (c := c) U9 (HX.out.next S9.out.below) (by simp) HH.out
  rw [HKK.out] at HLK
  unfold insV at HLK
  simp only [List.length_cons, List.length_nil, Nat.zero_add, Nat.reduceAdd] at HLK
  refine wpAnyH_ready (rs := [10]) (by kernel_rfl) (by simp) (AllReadyH.cons rfl (fun K hK => ?_) AllReadyH.nil)
  go_simp
  go_at_call 16
  (with_reducible refine (HLK.out _).mono ?_)
  rintro e W10 ⟨vo, rfl, ho, hb⟩
  have S10 := Lib.hid (S9.out.next hb)
  have HO := Lib.hid ho
  obtain ⟨ao, co, rfl⟩ := ho.len
  refine hK.out _ _ S10.out (fun _ => ?_)
  clear hK K hb
  try dsimp only [List.getElem_toArray, List.getElem_cons_succ, List.getElem_cons_zero, Act.put]
  try simp only [List.setIfInBounds_toArray, List.set_cons_zero, List.set_cons_succ]
  refine wpAnyH_take (i := 11) (v := ?_) rfl (by kernel_rfl) (by kernel_rfl) (by kernel_rfl) (fun _ _ _ h => h) (Or.inl ⟨by kernel_rfl, ?_⟩) S10.out ?_
  rotate_left
  · (intro w0 hSw; go_simp; try with_reducible rfl)
  try dsimp only [List.getElem_toArray, List.getElem_cons_succ, List.getElem_cons_zero, Act.put]
  try simp only [List.setIfInBounds_toArray, List.set_cons_zero, List.set_cons_succ]
  refine wpAnyH_done (by kernel_rfl) ?_ _
  try dsimp only [List.getElem_toArray, List.getElem_cons_succ, List.getElem_cons_zero, Act.put]
  try simp only [List.setIfInBounds_toArray, List.set_cons_zero, List.set_cons_succ]
  go_wp2
  go_ret
  exact ⟨_, rfl, HO.out, S10.out.below⟩
set_option maxRecDepth 100000 in
set_option maxHeartbeats 4000000 in
theorem Try.lacks_2 (x : Ins) (vn vm : Value) (w : World) (hx : HasIns w vn vm x) (HL : x.nodes.length ≤ 1000000) :
    Calls Try.prog 9 #[.int .i64 2, insV x vn vm] w fun e w' => ∃ v', e = .returned v' ∧ HasInts w' v' (toldE [(2, decide (x.kind ∈ ([3] : List Int))), (3, decide (x.metric = 6)), (6, decide (1 ≤ x.fleet)), (10, x.nodes.all fun d => decide (0 ≤ d.demand)), (13, x.nodes.all fun d => decide (d.mate = 0))]) ∧ Below w.heap.size w w' := by
  have HX := Lib.hid hx
  obtain ⟨an, cn, rfl, _⟩ := hx.nodes.dat
  obtain ⟨am, cm, rfl, _⟩ := hx.matrix.dat
  unfold insV
  have Hdemands := Lib.hid fun W h => Try.demands_calls (x := x) (vn := .slice an x.nodes.length cn) (vm := .slice am x.matrix.length cm) W h HL
  have HnoMates := Lib.hid fun W h => Try.noMates_calls (x := x) (vn := .slice an x.nodes.length cn) (vm := .slice am x.matrix.length cm) W h HL
  clear hx HL
  obtain ⟨kk, hkk⟩ : ∃ k, toldE [(2, decide (x.kind ∈ ([3] : List Int))), (3, decide (x.metric = 6)), (6, decide (1 ≤ x.fleet)), (10, x.nodes.all fun d => decide (0 ≤ d.demand)), (13, x.nodes.all fun d => decide (d.mate = 0))] = k := ⟨_, rfl⟩
  rw [hkk]
  have HKK := Lib.hid hkk
  clear hkk
  generalize x.nodes.length = L at *
  generalize x.matrix.length = M at *
  have HS := Lib.hid (LbS.new w x (.slice an L cn) (.slice am M cm))
  go_enter Try.func9, Try.ntmps9
  go_upto_region 6 with (fail)
  have N0 := HS.out.drew
  refine wp_region_held_drew (S := fun V => LbS w x (.slice an L cn) (.slice am M cm) V) (by kernel_rfl) N0 (fun hHeld0 => ?_)
  clear hHeld0
  have S0 := Lib.hid N0
  generalize (w.alloc (.cells #[.string x.name, .int .i64 x.kind, .int .i64 x.metric, .int .i64 x.scale, .int .i64 x.cap, .int .i64 x.fleet, .slice an L cn, .slice am M cm] 25)).drew = V0 at *
  clear HS
  refine wpAnyH_take (i := 0) (v := ?_) rfl (by kernel_rfl) (by kernel_rfl) (by kernel_rfl) (fun _ _ _ h => h) (Or.inl ⟨by kernel_rfl, ?_⟩) N0 ?_
  rotate_left
  · (intro w0 hSw; (try dsimp only at hSw); obtain ⟨d0, d1, d2, d3, d4, d5, d6, d7⟩ := hSw.box.cells; go_simp; try with_reducible rfl)
  try dsimp only [List.getElem_toArray, List.getElem_cons_succ, List.getElem_cons_zero, Act.put]
  try simp only [List.setIfInBounds_toArray, List.set_cons_zero, List.set_cons_succ]
  clear N0
  refine wpAnyH_ready (rs := [1]) (by kernel_rfl) (by simp) (AllReadyH.cons rfl (fun K hK => ?_) AllReadyH.nil)
  go_simp
  have hb := fbelow_box V0 (.cells #[.int .i64 3] 3)
  have S1 := Lib.hid (S0.out.next hb)
  have HN := Lib.hid (nums_lit V0 [3] (by simp))
  simp only [List.map_cons, List.map_nil, List.length_cons, List.length_nil, Nat.zero_add, intV] at HN
  refine hK.out _ _ S1.out (fun _ => ?_)
  clear hK K hb S0
  try dsimp only [List.getElem_toArray, List.getElem_cons_succ, List.getElem_cons_zero, Act.put]
  try simp only [List.setIfInBounds_toArray, List.set_cons_zero, List.set_cons_succ]
  obtain ⟨U1, hU⟩ : ∃ U, U = V0.alloc (.cells #[.int .i64 3] 3) := ⟨_, rfl⟩
  rw [← hU] at S1 HN ⊢
  clear hU
  refine wpAnyH_ready (rs := [2]) (by kernel_rfl) (by simp) (AllReadyH.cons rfl (fun K hK => ?_) AllReadyH.nil)
  go_simp
  go_at_call 17
  (with_reducible refine (Try.kindAmong_calls _ (HX.out.next S1.out.below) (by simp) HN.out).mono ?_)
  rintro e W2 ⟨vkind, rfl, hv, hb⟩
  have S2 := Lib.hid (S1.out.next hb)
  have Lkind := Lib.hid hv
  obtain ⟨gkind, lbkind, rfl, _, _⟩ := hv
  refine hK.out _ _ S2.out (fun _ => ?_)
  clear hK K hb S1
  try dsimp only [List.getElem_toArray, List.getElem_cons_succ, List.getElem_cons_zero, Act.put]
  try simp only [List.setIfInBounds_toArray, List.set_cons_zero, List.set_cons_succ]
  refine wpAnyH_ready (rs := [3]) (by kernel_rfl) (by simp) (AllReadyH.cons rfl (fun K hK => ?_) AllReadyH.nil)
  go_simp
  go_at_call 24
  (with_reducible refine (Try.tenths_calls _ (HX.out.next S2.out.below)).mono ?_)
  rintro e W3 ⟨vtenths, rfl, hv, hb⟩
  replace Lkind := Lib.hid (Lkind.out.later hb)
  have S3 := Lib.hid (S2.out.next hb)
  have Ltenths := Lib.hid hv
  obtain ⟨gtenths, lbtenths, rfl, _, _⟩ := hv
  refine hK.out _ _ S3.out (fun _ => ?_)
  clear hK K hb S2
  try dsimp only [List.getElem_toArray, List.getElem_cons_succ, List.getElem_cons_zero, Act.put]
  try simp only [List.setIfInBounds_toArray, List.set_cons_zero, List.set_cons_succ]
  refine wpAnyH_ready (rs := [4]) (by kernel_rfl) (by simp) (AllReadyH.cons rfl (fun K hK => ?_) AllReadyH.nil)
  go_simp
  go_at_call 25
  (with_reducible refine (Try.someFleet_calls _ (HX.out.next S3.out.below)).mono ?_)
  rintro e W4 ⟨vsomeFleet, rfl, hv, hb⟩
  replace Lkind := Lib.hid (Lkind.out.later hb)
  replace Ltenths := Lib.hid (Ltenths.out.later hb)
  have S4 := Lib.hid (S3.out.next hb)
  have LsomeFleet := Lib.hid hv
  obtain ⟨gsomeFleet, lbsomeFleet, rfl, _, _⟩ := hv
  refine hK.out _ _ S4.out (fun _ => ?_)
  clear hK K hb S3
  try dsimp only [List.getElem_toArray, List.getElem_cons_succ, List.getElem_cons_zero, Act.put]
  try simp only [List.setIfInBounds_toArray, List.set_cons_zero, List.set_cons_succ]
  refine wpAnyH_ready (rs := [5]) (by kernel_rfl) (by simp) (AllReadyH.cons rfl (fun K hK => ?_) AllReadyH.nil)
  go_simp
  go_at_call 20
  (with_reducible refine (Hdemands.out _ (HX.out.next S4.out.below)).mono ?_)
  rintro e W5 ⟨vdemands, rfl, hv, hb⟩
  replace Lkind := Lib.hid (Lkind.out.later hb)
  replace Ltenths := Lib.hid (Ltenths.out.later hb)
  replace LsomeFleet := Lib.hid (LsomeFleet.out.later hb)
  have S5 := Lib.hid (S4.out.next hb)
  have Ldemands := Lib.hid hv
  obtain ⟨gdemands, lbdemands, rfl, _, _⟩ := hv
  refine hK.out _ _ S5.out (fun _ => ?_)
  clear hK K hb S4
  try dsimp only [List.getElem_toArray, List.getElem_cons_succ, List.getElem_cons_zero, Act.put]
  try simp only [List.setIfInBounds_toArray, List.set_cons_zero, List.set_cons_succ]
  refine wpAnyH_ready (rs := [6]) (by kernel_rfl) (by simp) (AllReadyH.cons rfl (fun K hK => ?_) AllReadyH.nil)
  go_simp
  go_at_call 23
  (with_reducible refine (HnoMates.out _ (HX.out.next S5.out.below)).mono ?_)
  rintro e W6 ⟨vnoMates, rfl, hv, hb⟩
  replace Lkind := Lib.hid (Lkind.out.later hb)
  replace Ltenths := Lib.hid (Ltenths.out.later hb)
  replace LsomeFleet := Lib.hid (LsomeFleet.out.later hb)
  replace Ldemands := Lib.hid (Ldemands.out.later hb)
  have S6 := Lib.hid (S5.out.next hb)
  have LnoMates := Lib.hid hv
  obtain ⟨gnoMates, lbnoMates, rfl, _, _⟩ := hv
  refine hK.out _ _ S6.out (fun _ => ?_)
  clear hK K hb S5
  try dsimp only [List.getElem_toArray, List.getElem_cons_succ, List.getElem_cons_zero, Act.put]
  try simp only [List.setIfInBounds_toArray, List.set_cons_zero, List.set_cons_succ]
  refine wpAnyH_ready (rs := [7]) (by kernel_rfl) (by simp) (AllReadyH.cons rfl (fun K hK => ?_) AllReadyH.nil)
  go_simp
  have hb := fbelow_box W6 (.cells #[.func (.func gkind) #[] lbkind, .func (.func gtenths) #[] lbtenths, .func (.func gsomeFleet) #[] lbsomeFleet, .func (.func gdemands) #[] lbdemands, .func (.func gnoMates) #[] lbnoMates] 43)
  have S7 := Lib.hid (S6.out.next hb)
  have HH : Hid (HoldL x (.slice an L cn) (.slice am M cm) W6.heap.size [(2, decide (x.kind ∈ ([3] : List Int))), (3, decide (x.metric = 6)), (6, decide (1 ≤ x.fleet)), (10, x.nodes.all fun d => decide (0 ≤ d.demand)), (13, x.nodes.all fun d => decide (d.mate = 0))] (W6.alloc (.cells #[.func (.func gkind) #[] lbkind, .func (.func gtenths) #[] lbtenths, .func (.func gsomeFleet) #[] lbsomeFleet, .func (.func gdemands) #[] lbdemands, .func (.func gnoMates) #[] lbnoMates] 43))) := by
    refine ⟨S7.out.below.size |> fun _ => by simp, fun i p hp => ?_⟩
    rcases i with _ | i
    · obtain rfl : _ = p := Option.some.inj hp
      exact ⟨_, lcell _ _ _ _, Lkind.out.later hb⟩
    rcases i with _ | i
    · obtain rfl : _ = p := Option.some.inj hp
      exact ⟨_, lcell _ _ _ _, Ltenths.out.later hb⟩
    rcases i with _ | i
    · obtain rfl : _ = p := Option.some.inj hp
      exact ⟨_, lcell _ _ _ _, LsomeFleet.out.later hb⟩
    rcases i with _ | i
    · obtain rfl : _ = p := Option.some.inj hp
      exact ⟨_, lcell _ _ _ _, Ldemands.out.later hb⟩
    rcases i with _ | i
    · obtain rfl : _ = p := Option.some.inj hp
      exact ⟨_, lcell _ _ _ _, LnoMates.out.later hb⟩
    simp at hp
  refine hK.out _ _ S7.out (fun _ => ?_)
  clear hK K hb
  try dsimp only [List.getElem_toArray, List.getElem_cons_succ, List.getElem_cons_zero, Act.put]
  try simp only [List.setIfInBounds_toArray, List.set_cons_zero, List.set_cons_succ]
  obtain ⟨U7, hU⟩ : ∃ U, U = W6.alloc (.cells #[.func (.func gkind) #[] lbkind, .func (.func gtenths) #[] lbtenths, .func (.func gsomeFleet) #[] lbsomeFleet, .func (.func gdemands) #[] lbdemands, .func (.func gnoMates) #[] lbnoMates] 43) := ⟨_, rfl⟩
  rw [← hU] at S7 HH ⊢
  clear hU
  have HLK := Lib.hid fun c => Try.lacking_calls (c := c) U7 (HX.out.next S7.out.below) (by simp) HH.out
  rw [HKK.out] at HLK
  unfold insV at HLK
  simp only [List.length_cons, List.length_nil, Nat.zero_add, Nat.reduceAdd] at HLK
  refine wpAnyH_ready (rs := [8]) (by kernel_rfl) (by simp) (AllReadyH.cons rfl (fun K hK => ?_) AllReadyH.nil)
  go_simp
  go_at_call 16
  (with_reducible refine (HLK.out _).mono ?_)
  rintro e W8 ⟨vo, rfl, ho, hb⟩
  have S8 := Lib.hid (S7.out.next hb)
  have HO := Lib.hid ho
  obtain ⟨ao, co, rfl⟩ := ho.len
  refine hK.out _ _ S8.out (fun _ => ?_)
  clear hK K hb
  try dsimp only [List.getElem_toArray, List.getElem_cons_succ, List.getElem_cons_zero, Act.put]
  try simp only [List.setIfInBounds_toArray, List.set_cons_zero, List.set_cons_succ]
  refine wpAnyH_take (i := 9) (v := ?_) rfl (by kernel_rfl) (by kernel_rfl) (by kernel_rfl) (fun _ _ _ h => h) (Or.inl ⟨by kernel_rfl, ?_⟩) S8.out ?_
  rotate_left
  · (intro w0 hSw; go_simp; try with_reducible rfl)
  try dsimp only [List.getElem_toArray, List.getElem_cons_succ, List.getElem_cons_zero, Act.put]
  try simp only [List.setIfInBounds_toArray, List.set_cons_zero, List.set_cons_succ]
  refine wpAnyH_done (by kernel_rfl) ?_ _
  try dsimp only [List.getElem_toArray, List.getElem_cons_succ, List.getElem_cons_zero, Act.put]
  try simp only [List.setIfInBounds_toArray, List.set_cons_zero, List.set_cons_succ]
  go_wp2
  go_ret
  exact ⟨_, rfl, HO.out, S8.out.below⟩
set_option maxRecDepth 100000 in
set_option maxHeartbeats 4000000 in
theorem Try.lacks_3 (x : Ins) (vn vm : Value) (w : World) (hx : HasIns w vn vm x) :
    Calls Try.prog 9 #[.int .i64 3, insV x vn vm] w fun e w' => ∃ v', e = .returned v' ∧ HasInts w' v' (toldE [(1, decide (x.name.toList = [108, 105, 108, 105, 109])), (2, decide (x.kind ∈ ([4] : List Int))), (3, decide (x.metric = 6)), (4, decide (x.scale = 0)), (6, decide (1 ≤ x.fleet))]) ∧ Below w.heap.size w w' := by
  have HX := Lib.hid hx
  obtain ⟨an, cn, rfl, _⟩ := hx.nodes.dat
  obtain ⟨am, cm, rfl, _⟩ := hx.matrix.dat
  unfold insV
  clear hx
  obtain ⟨kk, hkk⟩ : ∃ k, toldE [(1, decide (x.name.toList = [108, 105, 108, 105, 109])), (2, decide (x.kind ∈ ([4] : List Int))), (3, decide (x.metric = 6)), (4, decide (x.scale = 0)), (6, decide (1 ≤ x.fleet))] = k := ⟨_, rfl⟩
  rw [hkk]
  have HKK := Lib.hid hkk
  clear hkk
  generalize x.nodes.length = L at *
  generalize x.matrix.length = M at *
  have HS := Lib.hid (LbS.new w x (.slice an L cn) (.slice am M cm))
  go_enter Try.func9, Try.ntmps9
  go_upto_region 8 with (fail)
  have N0 := HS.out.drew
  refine wp_region_held_drew (S := fun V => LbS w x (.slice an L cn) (.slice am M cm) V) (by kernel_rfl) N0 (fun hHeld0 => ?_)
  clear hHeld0
  have S0 := Lib.hid N0
  generalize (w.alloc (.cells #[.string x.name, .int .i64 x.kind, .int .i64 x.metric, .int .i64 x.scale, .int .i64 x.cap, .int .i64 x.fleet, .slice an L cn, .slice am M cm] 25)).drew = V0 at *
  clear HS
  refine wpAnyH_take (i := 0) (v := ?_) rfl (by kernel_rfl) (by kernel_rfl) (by kernel_rfl) (fun _ _ _ h => h) (Or.inl ⟨by kernel_rfl, ?_⟩) N0 ?_
  rotate_left
  · (intro w0 hSw; (try dsimp only at hSw); obtain ⟨d0, d1, d2, d3, d4, d5, d6, d7⟩ := hSw.box.cells; go_simp; try with_reducible rfl)
  try dsimp only [List.getElem_toArray, List.getElem_cons_succ, List.getElem_cons_zero, Act.put]
  try simp only [List.setIfInBounds_toArray, List.set_cons_zero, List.set_cons_succ]
  clear N0
  refine wpAnyH_ready (rs := [1, 2]) (by kernel_rfl) (by simp) (AllReadyH.cons rfl (fun K hK => ?_) (AllReadyH.cons rfl (fun K hK => ?_) AllReadyH.nil))
  · go_simp
    go_at_call 26
    (with_reducible refine (Try.noName_calls _ (HX.out.next S0.out.below)).mono ?_)
    rintro e W1 ⟨vname, rfl, hv, hb⟩
    have S1 := Lib.hid (S0.out.next hb)
    have Lname := Lib.hid hv
    obtain ⟨gname, lbname, rfl, _, _⟩ := hv
    refine hK.out _ _ S1.out (fun _ => ?_)
    clear hK K hb S0
    try dsimp only [List.getElem_toArray, List.getElem_cons_succ, List.getElem_cons_zero, Act.put]
    try simp only [List.setIfInBounds_toArray, List.set_cons_zero, List.set_cons_succ]
    refine wpAnyH_ready (rs := [2]) (by kernel_rfl) (by simp) (AllReadyH.cons rfl (fun K hK => ?_) AllReadyH.nil)
    go_simp
    have hb := fbelow_box W1 (.cells #[.int .i64 4] 3)
    replace Lname := Lib.hid (Lname.out.later hb)
    have S2 := Lib.hid (S1.out.next hb)
    have HN := Lib.hid (nums_lit W1 [4] (by simp))
    simp only [List.map_cons, List.map_nil, List.length_cons, List.length_nil, Nat.zero_add, intV] at HN
    refine hK.out _ _ S2.out (fun _ => ?_)
    clear hK K hb S1
    try dsimp only [List.getElem_toArray, List.getElem_cons_succ, List.getElem_cons_zero, Act.put]
    try simp only [List.setIfInBounds_toArray, List.set_cons_zero, List.set_cons_succ]
    obtain ⟨U2, hU⟩ : ∃ U, U = W1.alloc (.cells #[.int .i64 4] 3) := ⟨_, rfl⟩
    rw [← hU] at S2 HN ⊢
    rw [← hU] at Lname
    clear hU
    refine wpAnyH_ready (rs := [3]) (by kernel_rfl) (by simp) (AllReadyH.cons rfl (fun K hK => ?_) AllReadyH.nil)
    go_simp
    go_at_call 17
    (with_reducible refine (Try.kindAmong_calls _ (HX.out.next S2.out.below) (by simp) HN.out).mono ?_)
    rintro e W3 ⟨vkind, rfl, hv, hb⟩
    replace Lname := Lib.hid (Lname.out.later hb)
    have S3 := Lib.hid (S2.out.next hb)
    have Lkind := Lib.hid hv
    obtain ⟨gkind, lbkind, rfl, _, _⟩ := hv
    refine hK.out _ _ S3.out (fun _ => ?_)
    clear hK K hb S2
    try dsimp only [List.getElem_toArray, List.getElem_cons_succ, List.getElem_cons_zero, Act.put]
    try simp only [List.setIfInBounds_toArray, List.set_cons_zero, List.set_cons_succ]
    refine wpAnyH_ready (rs := [4]) (by kernel_rfl) (by simp) (AllReadyH.cons rfl (fun K hK => ?_) AllReadyH.nil)
    go_simp
    go_at_call 24
    (with_reducible refine (Try.tenths_calls _ (HX.out.next S3.out.below)).mono ?_)
    rintro e W4 ⟨vtenths, rfl, hv, hb⟩
    replace Lname := Lib.hid (Lname.out.later hb)
    replace Lkind := Lib.hid (Lkind.out.later hb)
    have S4 := Lib.hid (S3.out.next hb)
    have Ltenths := Lib.hid hv
    obtain ⟨gtenths, lbtenths, rfl, _, _⟩ := hv
    refine hK.out _ _ S4.out (fun _ => ?_)
    clear hK K hb S3
    try dsimp only [List.getElem_toArray, List.getElem_cons_succ, List.getElem_cons_zero, Act.put]
    try simp only [List.setIfInBounds_toArray, List.set_cons_zero, List.set_cons_succ]
    refine wpAnyH_ready (rs := [5]) (by kernel_rfl) (by simp) (AllReadyH.cons rfl (fun K hK => ?_) AllReadyH.nil)
    go_simp
    go_at_call 27
    (with_reducible refine (Try.unscaled_calls _ (HX.out.next S4.out.below)).mono ?_)
    rintro e W5 ⟨vunscaled, rfl, hv, hb⟩
    replace Lname := Lib.hid (Lname.out.later hb)
    replace Lkind := Lib.hid (Lkind.out.later hb)
    replace Ltenths := Lib.hid (Ltenths.out.later hb)
    have S5 := Lib.hid (S4.out.next hb)
    have Lunscaled := Lib.hid hv
    obtain ⟨gunscaled, lbunscaled, rfl, _, _⟩ := hv
    refine hK.out _ _ S5.out (fun _ => ?_)
    clear hK K hb S4
    try dsimp only [List.getElem_toArray, List.getElem_cons_succ, List.getElem_cons_zero, Act.put]
    try simp only [List.setIfInBounds_toArray, List.set_cons_zero, List.set_cons_succ]
    refine wpAnyH_ready (rs := [6]) (by kernel_rfl) (by simp) (AllReadyH.cons rfl (fun K hK => ?_) AllReadyH.nil)
    go_simp
    go_at_call 25
    (with_reducible refine (Try.someFleet_calls _ (HX.out.next S5.out.below)).mono ?_)
    rintro e W6 ⟨vsomeFleet, rfl, hv, hb⟩
    replace Lname := Lib.hid (Lname.out.later hb)
    replace Lkind := Lib.hid (Lkind.out.later hb)
    replace Ltenths := Lib.hid (Ltenths.out.later hb)
    replace Lunscaled := Lib.hid (Lunscaled.out.later hb)
    have S6 := Lib.hid (S5.out.next hb)
    have LsomeFleet := Lib.hid hv
    obtain ⟨gsomeFleet, lbsomeFleet, rfl, _, _⟩ := hv
    refine hK.out _ _ S6.out (fun _ => ?_)
    clear hK K hb S5
    try dsimp only [List.getElem_toArray, List.getElem_cons_succ, List.getElem_cons_zero, Act.put]
    try simp only [List.setIfInBounds_toArray, List.set_cons_zero, List.set_cons_succ]
    refine wpAnyH_ready (rs := [7]) (by kernel_rfl) (by simp) (AllReadyH.cons rfl (fun K hK => ?_) AllReadyH.nil)
    go_simp
    have hb := fbelow_box W6 (.cells #[.func (.func gname) #[] lbname, .func (.func gkind) #[] lbkind, .func (.func gtenths) #[] lbtenths, .func (.func gunscaled) #[] lbunscaled, .func (.func gsomeFleet) #[] lbsomeFleet] 43)
    have S7 := Lib.hid (S6.out.next hb)
    have HH : Hid (HoldL x (.slice an L cn) (.slice am M cm) W6.heap.size [(1, decide (x.name.toList = [108, 105, 108, 105, 109])), (2, decide (x.kind ∈ ([4] : List Int))), (3, decide (x.metric = 6)), (4, decide (x.scale = 0)), (6, decide (1 ≤ x.fleet))] (W6.alloc (.cells #[.func (.func gname) #[] lbname, .func (.func gkind) #[] lbkind, .func (.func gtenths) #[] lbtenths, .func (.func gunscaled) #[] lbunscaled, .func (.func gsomeFleet) #[] lbsomeFleet] 43))) := by
      refine ⟨S7.out.below.size |> fun _ => by simp, fun i p hp => ?_⟩
      rcases i with _ | i
      · obtain rfl : _ = p := Option.some.inj hp
        exact ⟨_, lcell _ _ _ _, Lname.out.later hb⟩
      rcases i with _ | i
      · obtain rfl : _ = p := Option.some.inj hp
        exact ⟨_, lcell _ _ _ _, Lkind.out.later hb⟩
      rcases i with _ | i
      · obtain rfl : _ = p := Option.some.inj hp
        exact ⟨_, lcell _ _ _ _, Ltenths.out.later hb⟩
      rcases i with _ | i
      · obtain rfl : _ = p := Option.some.inj hp
        exact ⟨_, lcell _ _ _ _, Lunscaled.out.later hb⟩
      rcases i with _ | i
      · obtain rfl : _ = p := Option.some.inj hp
        exact ⟨_, lcell _ _ _ _, LsomeFleet.out.later hb⟩
      simp at hp
    refine hK.out _ _ S7.out (fun _ => ?_)
    clear hK K hb
    try dsimp only [List.getElem_toArray, List.getElem_cons_succ, List.getElem_cons_zero, Act.put]
    try simp only [List.setIfInBounds_toArray, List.set_cons_zero, List.set_cons_succ]
    obtain ⟨U7, hU⟩ : ∃ U, U = W6.alloc (.cells #[.func (.func gname) #[] lbname, .func (.func gkind) #[] lbkind, .func (.func gtenths) #[] lbtenths, .func (.func gunscaled) #[] lbunscaled, .func (.func gsomeFleet) #[] lbsomeFleet] 43) := ⟨_, rfl⟩
    rw [← hU] at S7 HH ⊢
    clear hU
    have HLK := Lib.hid fun c => Try.lacking_calls (c := c) U7 (HX.out.next S7.out.below) (by simp) HH.out
    rw [HKK.out] at HLK
    unfold insV at HLK
    simp only [List.length_cons, List.length_nil, Nat.zero_add, Nat.reduceAdd] at HLK
    refine wpAnyH_ready (rs := [8]) (by kernel_rfl) (by simp) (AllReadyH.cons rfl (fun K hK => ?_) AllReadyH.nil)
    go_simp
    go_at_call 16
    (with_reducible refine (HLK.out _).mono ?_)
    rintro e W8 ⟨vo, rfl, ho, hb⟩
    have S8 := Lib.hid (S7.out.next hb)
    have HO := Lib.hid ho
    obtain ⟨ao, co, rfl⟩ := ho.len
    refine hK.out _ _ S8.out (fun _ => ?_)
    clear hK K hb
    try dsimp only [List.getElem_toArray, List.getElem_cons_succ, List.getElem_cons_zero, Act.put]
    try simp only [List.setIfInBounds_toArray, List.set_cons_zero, List.set_cons_succ]
    refine wpAnyH_take (i := 9) (v := ?_) rfl (by kernel_rfl) (by kernel_rfl) (by kernel_rfl) (fun _ _ _ h => h) (Or.inl ⟨by kernel_rfl, ?_⟩) S8.out ?_
    rotate_left
    · (intro w0 hSw; go_simp; try with_reducible rfl)
    try dsimp only [List.getElem_toArray, List.getElem_cons_succ, List.getElem_cons_zero, Act.put]
    try simp only [List.setIfInBounds_toArray, List.set_cons_zero, List.set_cons_succ]
    refine wpAnyH_done (by kernel_rfl) ?_ _
    try dsimp only [List.getElem_toArray, List.getElem_cons_succ, List.getElem_cons_zero, Act.put]
    try simp only [List.setIfInBounds_toArray, List.set_cons_zero, List.set_cons_succ]
    go_wp2
    go_ret
    exact ⟨_, rfl, HO.out, S8.out.below⟩
  · go_simp
    have hb := fbelow_box V0 (.cells #[.int .i64 4] 3)
    have S2 := Lib.hid (S0.out.next hb)
    have HN := Lib.hid (nums_lit V0 [4] (by simp))
    simp only [List.map_cons, List.map_nil, List.length_cons, List.length_nil, Nat.zero_add, intV] at HN
    refine hK.out _ _ S2.out (fun _ => ?_)
    clear hK K hb S0
    try dsimp only [List.getElem_toArray, List.getElem_cons_succ, List.getElem_cons_zero, Act.put]
    try simp only [List.setIfInBounds_toArray, List.set_cons_zero, List.set_cons_succ]
    obtain ⟨U2, hU⟩ : ∃ U, U = V0.alloc (.cells #[.int .i64 4] 3) := ⟨_, rfl⟩
    rw [← hU] at S2 HN ⊢
    clear hU
    refine wpAnyH_ready (rs := [1]) (by kernel_rfl) (by simp) (AllReadyH.cons rfl (fun K hK => ?_) AllReadyH.nil)
    go_simp
    go_at_call 26
    (with_reducible refine (Try.noName_calls _ (HX.out.next S2.out.below)).mono ?_)
    rintro e W1 ⟨vname, rfl, hv, hb⟩
    replace HN := Lib.hid (HN.out.next hb)
    have S1 := Lib.hid (S2.out.next hb)
    have Lname := Lib.hid hv
    obtain ⟨gname, lbname, rfl, _, _⟩ := hv
    refine hK.out _ _ S1.out (fun _ => ?_)
    clear hK K hb S2
    try dsimp only [List.getElem_toArray, List.getElem_cons_succ, List.getElem_cons_zero, Act.put]
    try simp only [List.setIfInBounds_toArray, List.set_cons_zero, List.set_cons_succ]
    refine wpAnyH_ready (rs := [3]) (by kernel_rfl) (by simp) (AllReadyH.cons rfl (fun K hK => ?_) AllReadyH.nil)
    go_simp
    go_at_call 17
    (with_reducible refine (Try.kindAmong_calls _ (HX.out.next S1.out.below) (by simp) HN.out).mono ?_)
    rintro e W3 ⟨vkind, rfl, hv, hb⟩
    replace Lname := Lib.hid (Lname.out.later hb)
    have S3 := Lib.hid (S1.out.next hb)
    have Lkind := Lib.hid hv
    obtain ⟨gkind, lbkind, rfl, _, _⟩ := hv
    refine hK.out _ _ S3.out (fun _ => ?_)
    clear hK K hb S1
    try dsimp only [List.getElem_toArray, List.getElem_cons_succ, List.getElem_cons_zero, Act.put]
    try simp only [List.setIfInBounds_toArray, List.set_cons_zero, List.set_cons_succ]
    refine wpAnyH_ready (rs := [4]) (by kernel_rfl) (by simp) (AllReadyH.cons rfl (fun K hK => ?_) AllReadyH.nil)
    go_simp
    go_at_call 24
    (with_reducible refine (Try.tenths_calls _ (HX.out.next S3.out.below)).mono ?_)
    rintro e W4 ⟨vtenths, rfl, hv, hb⟩
    replace Lname := Lib.hid (Lname.out.later hb)
    replace Lkind := Lib.hid (Lkind.out.later hb)
    have S4 := Lib.hid (S3.out.next hb)
    have Ltenths := Lib.hid hv
    obtain ⟨gtenths, lbtenths, rfl, _, _⟩ := hv
    refine hK.out _ _ S4.out (fun _ => ?_)
    clear hK K hb S3
    try dsimp only [List.getElem_toArray, List.getElem_cons_succ, List.getElem_cons_zero, Act.put]
    try simp only [List.setIfInBounds_toArray, List.set_cons_zero, List.set_cons_succ]
    refine wpAnyH_ready (rs := [5]) (by kernel_rfl) (by simp) (AllReadyH.cons rfl (fun K hK => ?_) AllReadyH.nil)
    go_simp
    go_at_call 27
    (with_reducible refine (Try.unscaled_calls _ (HX.out.next S4.out.below)).mono ?_)
    rintro e W5 ⟨vunscaled, rfl, hv, hb⟩
    replace Lname := Lib.hid (Lname.out.later hb)
    replace Lkind := Lib.hid (Lkind.out.later hb)
    replace Ltenths := Lib.hid (Ltenths.out.later hb)
    have S5 := Lib.hid (S4.out.next hb)
    have Lunscaled := Lib.hid hv
    obtain ⟨gunscaled, lbunscaled, rfl, _, _⟩ := hv
    refine hK.out _ _ S5.out (fun _ => ?_)
    clear hK K hb S4
    try dsimp only [List.getElem_toArray, List.getElem_cons_succ, List.getElem_cons_zero, Act.put]
    try simp only [List.setIfInBounds_toArray, List.set_cons_zero, List.set_cons_succ]
    refine wpAnyH_ready (rs := [6]) (by kernel_rfl) (by simp) (AllReadyH.cons rfl (fun K hK => ?_) AllReadyH.nil)
    go_simp
    go_at_call 25
    (with_reducible refine (Try.someFleet_calls _ (HX.out.next S5.out.below)).mono ?_)
    rintro e W6 ⟨vsomeFleet, rfl, hv, hb⟩
    replace Lname := Lib.hid (Lname.out.later hb)
    replace Lkind := Lib.hid (Lkind.out.later hb)
    replace Ltenths := Lib.hid (Ltenths.out.later hb)
    replace Lunscaled := Lib.hid (Lunscaled.out.later hb)
    have S6 := Lib.hid (S5.out.next hb)
    have LsomeFleet := Lib.hid hv
    obtain ⟨gsomeFleet, lbsomeFleet, rfl, _, _⟩ := hv
    refine hK.out _ _ S6.out (fun _ => ?_)
    clear hK K hb S5
    try dsimp only [List.getElem_toArray, List.getElem_cons_succ, List.getElem_cons_zero, Act.put]
    try simp only [List.setIfInBounds_toArray, List.set_cons_zero, List.set_cons_succ]
    refine wpAnyH_ready (rs := [7]) (by kernel_rfl) (by simp) (AllReadyH.cons rfl (fun K hK => ?_) AllReadyH.nil)
    go_simp
    have hb := fbelow_box W6 (.cells #[.func (.func gname) #[] lbname, .func (.func gkind) #[] lbkind, .func (.func gtenths) #[] lbtenths, .func (.func gunscaled) #[] lbunscaled, .func (.func gsomeFleet) #[] lbsomeFleet] 43)
    have S7 := Lib.hid (S6.out.next hb)
    have HH : Hid (HoldL x (.slice an L cn) (.slice am M cm) W6.heap.size [(1, decide (x.name.toList = [108, 105, 108, 105, 109])), (2, decide (x.kind ∈ ([4] : List Int))), (3, decide (x.metric = 6)), (4, decide (x.scale = 0)), (6, decide (1 ≤ x.fleet))] (W6.alloc (.cells #[.func (.func gname) #[] lbname, .func (.func gkind) #[] lbkind, .func (.func gtenths) #[] lbtenths, .func (.func gunscaled) #[] lbunscaled, .func (.func gsomeFleet) #[] lbsomeFleet] 43))) := by
      refine ⟨S7.out.below.size |> fun _ => by simp, fun i p hp => ?_⟩
      rcases i with _ | i
      · obtain rfl : _ = p := Option.some.inj hp
        exact ⟨_, lcell _ _ _ _, Lname.out.later hb⟩
      rcases i with _ | i
      · obtain rfl : _ = p := Option.some.inj hp
        exact ⟨_, lcell _ _ _ _, Lkind.out.later hb⟩
      rcases i with _ | i
      · obtain rfl : _ = p := Option.some.inj hp
        exact ⟨_, lcell _ _ _ _, Ltenths.out.later hb⟩
      rcases i with _ | i
      · obtain rfl : _ = p := Option.some.inj hp
        exact ⟨_, lcell _ _ _ _, Lunscaled.out.later hb⟩
      rcases i with _ | i
      · obtain rfl : _ = p := Option.some.inj hp
        exact ⟨_, lcell _ _ _ _, LsomeFleet.out.later hb⟩
      simp at hp
    refine hK.out _ _ S7.out (fun _ => ?_)
    clear hK K hb
    try dsimp only [List.getElem_toArray, List.getElem_cons_succ, List.getElem_cons_zero, Act.put]
    try simp only [List.setIfInBounds_toArray, List.set_cons_zero, List.set_cons_succ]
    obtain ⟨U7, hU⟩ : ∃ U, U = W6.alloc (.cells #[.func (.func gname) #[] lbname, .func (.func gkind) #[] lbkind, .func (.func gtenths) #[] lbtenths, .func (.func gunscaled) #[] lbunscaled, .func (.func gsomeFleet) #[] lbsomeFleet] 43) := ⟨_, rfl⟩
    rw [← hU] at S7 HH ⊢
    clear hU
    have HLK := Lib.hid fun c => Try.lacking_calls (c := c) U7 (HX.out.next S7.out.below) (by simp) HH.out
    rw [HKK.out] at HLK
    unfold insV at HLK
    simp only [List.length_cons, List.length_nil, Nat.zero_add, Nat.reduceAdd] at HLK
    refine wpAnyH_ready (rs := [8]) (by kernel_rfl) (by simp) (AllReadyH.cons rfl (fun K hK => ?_) AllReadyH.nil)
    go_simp
    go_at_call 16
    (with_reducible refine (HLK.out _).mono ?_)
    rintro e W8 ⟨vo, rfl, ho, hb⟩
    have S8 := Lib.hid (S7.out.next hb)
    have HO := Lib.hid ho
    obtain ⟨ao, co, rfl⟩ := ho.len
    refine hK.out _ _ S8.out (fun _ => ?_)
    clear hK K hb
    try dsimp only [List.getElem_toArray, List.getElem_cons_succ, List.getElem_cons_zero, Act.put]
    try simp only [List.setIfInBounds_toArray, List.set_cons_zero, List.set_cons_succ]
    refine wpAnyH_take (i := 9) (v := ?_) rfl (by kernel_rfl) (by kernel_rfl) (by kernel_rfl) (fun _ _ _ h => h) (Or.inl ⟨by kernel_rfl, ?_⟩) S8.out ?_
    rotate_left
    · (intro w0 hSw; go_simp; try with_reducible rfl)
    try dsimp only [List.getElem_toArray, List.getElem_cons_succ, List.getElem_cons_zero, Act.put]
    try simp only [List.setIfInBounds_toArray, List.set_cons_zero, List.set_cons_succ]
    refine wpAnyH_done (by kernel_rfl) ?_ _
    try dsimp only [List.getElem_toArray, List.getElem_cons_succ, List.getElem_cons_zero, Act.put]
    try simp only [List.setIfInBounds_toArray, List.set_cons_zero, List.set_cons_succ]
    go_wp2
    go_ret
    exact ⟨_, rfl, HO.out, S8.out.below⟩
end Go.Proofs
