/- feas.Check and feas.Feasible of the program. Conditions: an instance that may be relied on; 500 routes and 2200 stops at most. -/
import Derived.Test.YthgagmndefaniaaG28
import Derived.Test.YthgagmndefaniaaG10
import Derived.Test.YthgagmndefaniaaG07
import Derived.Test.YthgagmndefaniaaG01
import Derived.Test.YthgagmndefaniaaG24
import Derived.ArgAppend
namespace Go.Feas
open Go.Canon Go.Plans
def lookW (f : Nat) (x : Ins) (i : Nat) (r : List Int) : List Wr := if f = 54 then loadW x i r else if f = 53 then lateW x i r else pairsW x i r r.length
def rlook (fs : List Nat) (x : Ins) (i : Nat) (r : List Int) : List Wr := fs.flatMap fun f => lookW f x i r
def routesK (fs : List Nat) (x : Ins) : Nat → Rts → List Wr
  | _, [] => []
  | i, r :: rr => rlook fs x i r ++ routesK fs x (i + 1) rr
theorem routesK_snoc (fs : List Nat) (x : Ins) (r : List Int) : ∀ (a : Rts) (i : Nat), routesK fs x i (a ++ [r]) = routesK fs x i a ++ rlook fs x (i + a.length) r
  | [], i => by simp [routesK]
  | b :: a, i => by rw [List.cons_append, routesK, routesK, routesK_snoc fs x r a (i + 1), List.append_assoc, List.length_cons, Nat.add_right_comm i 1, Nat.add_assoc]
theorem routesK_take {fs : List Nat} {x : Ins} {rr : Rts} {a : Nat} {l : List Int} (h : rr[a]? = some l) : routesK fs x 0 (rr.take (a + 1)) = routesK fs x 0 (rr.take a) ++ rlook fs x a l := by
  have ha := (List.getElem?_eq_some_iff.1 h).1
  have e : rr.take (a + 1) = rr.take a ++ [l] := by rw [List.take_add_one, h]; rfl
  rw [e, routesK_snoc, List.length_take, Nat.min_eq_left (by omega), Nat.zero_add]
theorem rlook_len {fs : List Nat} (h : fs.length ≤ 3) (x : Ins) (i : Nat) (r : List Int) : (rlook fs x i r).length ≤ 3 * (1 + r.length) := by
  have one : ∀ f, (lookW f x i r).length ≤ 1 + r.length := fun f => by
    have := loadW_len x i r
    have := lateW_len x i r
    have := pairsW_len x i r r.length
    unfold lookW
    split
    · omega
    · split <;> omega
  have all : ∀ fs : List Nat, (rlook fs x i r).length ≤ fs.length * (1 + r.length) := fun fs => by
    induction fs with
    | nil => simp [rlook]
    | cons f fs ih =>
      have := one f
      unfold rlook at ih ⊢
      rw [List.flatMap_cons, List.length_append, List.length_cons, Nat.add_mul]
      omega
  exact Nat.le_trans (all fs) (Nat.mul_le_mul_right _ h)
theorem routesK_len {fs : List Nat} (h : fs.length ≤ 3) (x : Ins) : ∀ (rr : Rts) (i : Nat), (routesK fs x i rr).length ≤ 3 * (rr.length + many rr)
  | [], _ => Nat.zero_le _
  | r :: rr, i => by
    have := rlook_len h x i r
    have := routesK_len h x rr (i + 1)
    rw [routesK, List.length_append, many_cons, List.length_cons]; omega
theorem routesK_nil (x : Ins) : ∀ (rr : Rts) (i : Nat), routesK [] x i rr = []
  | [], _ => rfl
  | r :: rr, i => by rw [routesK, routesK_nil x rr (i + 1)]; rfl
theorem routesK_route {fs : List Nat} {x : Ins} (h : ∀ i r, rlook fs x i r = routeW x i r) : ∀ (rr : Rts) (i : Nat), routesK fs x i rr = routesW x i rr
  | [], _ => rfl
  | r :: rr, i => by rw [routesK, routesW, h, routesK_route h rr (i + 1)]
theorem rlook_take {fs : List Nat} {m f : Nat} (h : fs[m]? = some f) (x : Ins) (i : Nat) (r : List Int) : rlook (fs.take (m + 1)) x i r = rlook (fs.take m) x i r ++ lookW f x i r := by
  unfold rlook
  rw [List.take_add_one, h, List.flatMap_append]; simp
end Go.Feas
namespace Go.Proofs
open Go.RowKit Go.Shelf Go.Canon Go.Feas Go.Plans
attribute [local go_sem] Oper.semAt_some
attribute [local go_sem ↓] Go.wp_at_zero Go.wp_at_succ
theorem looksN_len (k : Int) : (looksN k).length ≤ 3 := by
  unfold looksN; split
  · simp
  · split
    · simp
    · split <;> simp
theorem looksN_mem {k : Int} {f : Nat} (h : f ∈ looksN k) : f = 54 ∨ f = 53 ∨ f = 52 := by
  unfold looksN at h
  split at h
  · simp at h
  · split at h
    · simpa using h
    · split at h
      · have : f = 54 ∨ f = 53 := by simpa using h
        omega
      · have : f = 54 := by simpa using h
        omega
theorem looks_check {x : Ins} (hk : 1 ≤ x.kind ∧ x.kind ≤ 4) (rr : Rts) : routesK (looksN x.kind) x 0 rr = if x.kind = 1 then [] else routesW x 0 rr := by
  by_cases k1 : x.kind = 1
  · rw [if_pos k1]
    unfold looksN
    rw [if_pos k1, routesK_nil]
  · rw [if_neg k1]
    refine routesK_route (fun i r => ?_) rr 0
    unfold looksN routeW rlook
    rw [if_neg k1]
    by_cases k4 : x.kind = 4
    · rw [if_pos k4, if_neg (by omega), if_neg (by omega)]; simp [lookW]
    · rw [if_neg k4]
      by_cases k3 : x.kind = 3
      · rw [if_pos k3, if_neg (by omega), if_pos k3]; simp [lookW]
      · rw [if_neg k3, if_pos (show x.kind = 2 by omega)]; simp [lookW]
theorem Try.look_calls (f : Nat) (hf : f = 54 ∨ f = 53 ∨ f = 52) (x : Ins) (vn vm v : Value) (r : List Int) (i : Nat) (w : World) (hx : HasIns w vn vm x) (hg : Fine x) (hl : r.length ≤ 1000000) (hnb : nodesB x r = true) (hv : HasInts w v r) :
    Calls Try.prog f #[insV x vn vm, .int .i64 (i : Int), v] w fun e w' => ∃ v', e = .returned v' ∧ HasWrs w' v' (lookW f x i r) ∧ Below w.heap.size w w' := by
  rcases hf with rfl | rfl | rfl
  · exact Try.gloads_calls x vn vm v r i w hx hg hl hnb hv
  · exact Try.gtimes_calls x vn vm v r i w hx hg hl hnb hv
  · exact Try.gpairs_calls x vn vm v r i w hx hg hl hnb hv
/-- An instance and a plan in their boxes, a row of wrongs, and one of looks. -/
structure CqS (w : World) (x : Ins) (vn vm vp : Value) (o : Value) (l : List Wr) (lv : Value) (nl : Nat) (W : World) : Prop where
  cp : CpS w x vn vm vp o l W
  lk : W.ownsRow (w.heap.size + 2) 65 1 lv nl ((looksN x.kind).map fun f => lookV f x vn vm)
theorem CqS.next {w W W' : World} {x : Ins} {vn vm vp o lv : Value} {l : List Wr} {nl : Nat} (h : CqS w x vn vm vp o l lv nl W) (hb : Below W.heap.size W W') : CqS w x vn vm vp o l lv nl W' := ⟨h.cp.next hb, fowns_next h.lk hb⟩
theorem CqS.alloc {w W : World} {x : Ins} {vn vm vp o lv : Value} {l : List Wr} {nl : Nat} (h : CqS w x vn vm vp o l lv nl W) (ob : Obj) : CqS w x vn vm vp o l lv nl (W.alloc ob) := h.next (fbelow_box W ob)
theorem CqS.grow {w W W' : World} {x : Ins} {vn vm vp o o' lv : Value} {l l' : List Wr} {nl : Nat} (h : CqS w x vn vm vp o l lv nl W) (hg : W.grownBy W' o.ownBlock) (hr : W'.ownsRow (w.heap.size + 2) 59 3 o' l'.length (l'.flatMap wrC)) : CqS w x vn vm vp o' l' lv nl W' :=
  ⟨h.cp.grow hg hr, h.lk.kept hg (two_rows h.lk h.cp.row (by decide))⟩
set_option maxRecDepth 100000 in
set_option maxHeartbeats 2000000 in
theorem Try.Check_calls (x : Ins) (vn vm v : Value) (rr : Rts) (w : World) (hx : HasIns w vn vm x) (hg : Fine x) (hl : rr.length ≤ 500) (hm : many rr ≤ 2200) (hv : HasRts w v rr) :
    Calls Try.prog 14 #[insV x vn vm, planV v] w fun e w' => ∃ v', e = .returned v' ∧ HasWrs w' v' (checkW x rr) ∧ Below w.heap.size w w' := by
  obtain ⟨i0, hio, hz0, hz1, hz2⟩ := info_parts Try.info59
  have HI := Lib.hid hio
  have HX := Lib.hid hx
  have HUK := Lib.hid fun W h k => Try.unknown_calls x vn vm v rr W h hg (by omega) (by omega) k
  have HVI := Lib.hid fun W h k => Try.visits_told x vn vm v rr W h hg (by omega) k
  have HFL := Lib.hid fun W h k => Try.fleet_calls x vn vm v rr W h (by omega) (by omega) k
  have HLO := Lib.hid fun W h => Try.looksOf_calls x vn vm W h hg
  have HLK := Lib.hid fun f hf u l i W h h1 h2 h3 => Try.look_calls f hf x vn vm u l i W h hg h1 h2 h3
  have HCK : Hid (unks x 0 rr = [] → checkW x rr = (cnts (least x) rr x.nodes.length ++ fleetW x rr) ++ routesK (looksN x.kind) x 0 rr) := fun h => by
    unfold checkW
    rw [if_neg (by rw [h]; simp), looks_check hg.kind, List.append_assoc]
  have hcn0 := cnts_len (least x) rr x.nodes.length
  have hfl0 := fleetW_len x rr
  have hhi := hg.hi
  have hls : ∀ l ∈ rr, l.length ≤ 2200 := fun l h => by
    obtain ⟨k, hk⟩ := List.mem_iff_getElem?.1 h
    have h1 := many_take hk
    have h2 := many_take_le rr (k + 1)
    omega
  have HLS := Lib.hid hls
  obtain ⟨an, cn, rfl, _⟩ := hx.nodes.dat
  obtain ⟨am, cm, rfl, _⟩ := hx.matrix.dat
  have HV := Lib.hid hv
  obtain ⟨ap, cp, rfl⟩ := hv.len
  obtain ⟨N, hn⟩ : ∃ n, rr.length = n := ⟨_, rfl⟩
  rw [hn] at hl HV HUK HVI HFL ⊢
  have HN := Lib.hid hn
  have hB0 : (cnts (least x) rr x.nodes.length ++ fleetW x rr).length ≤ 500 := by rw [List.length_append]; omega
  have HMN := Lib.hid hm
  generalize cnts (least x) rr x.nodes.length = l1 at *
  generalize fleetW x rr = l2 at *
  have hl1 : l1.length ≤ 1000000 := by omega
  have hl2 : l2.length ≤ 1000000 := by omega
  generalize x.nodes.length = L at *
  generalize x.matrix.length = M at *
  have HLV : Hid (∀ f, lookV f x (.slice an L cn) (.slice am M cm) = .func (.func f) #[.agg #[.string x.name, .int .i64 x.kind, .int .i64 x.metric, .int .i64 x.scale, .int .i64 x.cap, .int .i64 x.fleet, .slice an L cn, .slice am M cm]] #[]) := fun f => rfl
  unfold planV at HUK HVI HFL ⊢
  unfold insV at HUK HVI HFL HLO HLK ⊢
  clear hx hv hg hn hio hls hm hcn0 hfl0 hhi
  have HS0 := Lib.hid (lwS_start w x (.slice an L cn) (.slice am M cm) (.slice ap N cp))
  obtain ⟨c0, c1, c2, c3, c4, c5, c6, c7, hp0, -⟩ := lwS_S HS0.out
  go_enter Try.func14, Try.ntmps14
  by_cases hu : unks x 0 rr = []
  · rw [hu] at HUK
    have HUN := Lib.hid (unks_nodes hu)
    replace HCK := Lib.hid (HCK.out hu)
    clear hu
    go_upto_region 4 with (go_at_call 29; (with_reducible refine (HUK.out _ (HX.out.next HS0.out.below) (HV.out.next HS0.out.below)).mono ?_); rintro e w1 ⟨v1, rfl, hv1, hb1⟩; have HS1 := Lib.hid (HS0.out.next hb1); obtain ⟨a1, k1, rfl, -⟩ := hv1.dat; clear hv1 hb1 c0 c1 c2 c3 c4 c5 c6 c7 hp0; obtain ⟨c0, c1, c2, c3, c4, c5, c6, c7, hp0, -⟩ := lwS_S HS1.out)
    clear HUK HS0
    go_region_held3 (fun W => W.cell? ⟨w.heap.size, 0, none⟩ = some (.string x.name) ∧ W.cell? ⟨w.heap.size, 1, none⟩ = some (.int .i64 x.kind) ∧ W.cell? ⟨w.heap.size, 2, none⟩ = some (.int .i64 x.metric) ∧ W.cell? ⟨w.heap.size, 3, none⟩ = some (.int .i64 x.scale) ∧ W.cell? ⟨w.heap.size, 4, none⟩ = some (.int .i64 x.cap) ∧ W.cell? ⟨w.heap.size, 5, none⟩ = some (.int .i64 x.fleet) ∧ W.cell? ⟨w.heap.size, 6, none⟩ = some (.slice an L cn) ∧ W.cell? ⟨w.heap.size, 7, none⟩ = some (.slice am M cm) ∧ W.cell? ⟨w.heap.size + 1, 0, none⟩ = some (.slice ap N cp) ∧ LwS w x (.slice an L cn) (.slice am M cm) (.slice ap N cp) W)
      ((go_split_ands; (first | exact lwS_S HS1.out.drew | exact lwS_S q5 | exact lwS_S q6 | exact lwS_S (q6.alloc _) | exact lwS_S q7)))
      (first
        | (go_at_call 31; (with_reducible refine (HVI.out _ (HX.out.next HS1.out.drew.below) (HV.out.next HS1.out.drew.below)).mono ?_); rintro e w5 ⟨v5, rfl, hv5, hb5⟩; have q5 := HS1.out.drew.next hb5; obtain ⟨a5, k5, rfl, -⟩ := hv5.dat)
        | (go_at_call 32; (with_reducible refine (HFL.out _ (HX.out.next q5.below) (HV.out.next q5.below)).mono ?_); rintro e w6 ⟨v6, rfl, hv6, hb6⟩; have q6 := q5.next hb6; replace hv5 := hv5.next hb6; obtain ⟨a6, k6, rfl, -⟩ := hv6.dat)
        | (go_at_call 30; (with_reducible refine (Try.concat_calls _ _ l1 l2 _ _ (block_cell (World.alloc_heap_new w6 _) 0) (block_cell (World.alloc_heap_new w6 _) 1) (by simp) (hv5.next (fbelow_box w6 _)) (hv6.next (fbelow_box w6 _)) hl1 hl2).mono ?_); rintro e w7 ⟨v7, rfl, hv7, hb7⟩; have q7 := (q6.alloc _).next hb7))
    have HS7 : Hid (CpS w x (.slice an L cn) (.slice am M cm) (.slice ap N cp) v7 (l1 ++ l2) w7) := ⟨q7.box, q7.pbox, q7.below, owns_baseLe hv7 (by have := q6.pbox.2; simp; omega)⟩
    rename_i hh
    clear hh q5 q6 q7 hv5 hv6 hv7 hb5 hb6 hb7 HVI HFL HS1 c0 c1 c2 c3 c4 c5 c6 c7 hp0
    obtain ⟨c0, c1, c2, c3, c4, c5, c6, c7, hp0, -⟩ := cpS_S HS7.out
    have hs7 := HS7.out.pbox.2
    have hnl := looksN_len x.kind
    obtain ⟨fs, hfs⟩ : ∃ fs, looksN x.kind = fs := ⟨_, rfl⟩
    rw [hfs] at HCK hnl
    have HFS := Lib.hid hfs
    clear hfs
    go_wp2_with (go_at_call 33; (with_reducible refine (HLO.out _ (HX.out.next HS7.out.below)).mono ?_); rintro e w8 ⟨v8, rfl, ho8, hb8⟩; have HS8 : Hid (CqS w x (.slice an L cn) (.slice am M cm) (.slice ap N cp) v7 (l1 ++ l2) v8 (looksN x.kind).length w8) := ⟨HS7.out.next hb8, owns_baseLe ho8 (by omega)⟩; obtain ⟨a8, k8, rfl⟩ := owns_dat ho8; clear ho8 hb8 c0 c1 c2 c3 c4 c5 c6 c7 hp0; obtain ⟨c0, c1, c2, c3, c4, c5, c6, c7, hp0, -⟩ := cpS_S HS8.out.cp)
    rw [HFS.out] at HS8 ⊢
    generalize hnn : fs.length = nl at *
    have HNN := Lib.hid hnn
    clear hnn HLO HS7
    generalize l1 ++ l2 = l12 at *
    go_loopw [6, 32] (fun o i wr => ∃ a : Nat, a ≤ N ∧ i = .int .i64 (a : Int) ∧ CqS w x (.slice an L cn) (.slice am M cm) (.slice ap N cp) o (l12 ++ routesK fs x 0 (rr.take a)) (.slice a8 nl k8) nl wr) (fun _ i _ => N - (intOf i).toNat)
    case atStart => exact ⟨0, Nat.zero_le _, rfl, by show CqS _ _ _ _ _ _ (l12 ++ []) _ _ _; rw [List.append_nil]; exact HS8.out⟩
    case round =>
      obtain ⟨a, ha, rfl, hS⟩ := hrel
      have HS := Lib.hid hS
      clear hS HS8 c0 c1 c2 c3 c4 c5 c6 c7 hp0
      by_cases hlt : a < N
      · obtain ⟨l, hp⟩ : ∃ l, rr[a]? = some l := ⟨_, List.getElem?_eq_getElem (by have := HN.out; omega)⟩
        have hai : (a : Int) < (N : Int) := by omega
        have HUT : Hid (l12 ++ routesK fs x 0 (rr.take (a + 1)) = (l12 ++ routesK fs x 0 (rr.take a)) ++ rlook fs x a l) := by unfold Hid; rw [routesK_take hp, List.append_assoc]
        have hul := routesK_len (fs := fs) (by have := HNN.out; omega) x (rr.take a) 0
        have hml := many_take_le rr a
        rw [List.length_take] at hul
        have hmm := HMN.out
        have hll := HLS.out l (List.mem_of_getElem? hp)
        have hnb := HUN.out l (List.mem_of_getElem? hp)
        have hlk : (l12 ++ routesK fs x 0 (rr.take a)).length ≤ 100000 := by rw [List.length_append]; omega
        obtain ⟨b4, off4, cap4, u4, e4, _, hbw4, hc4, hu4⟩ := HV.out.get hp (Nat.le_refl _) (Below.refl _ w)
        rw [HN.out] at e4
        injection e4 with h1 h2 h3
        subst h1
        subst h3
        have hc4' := (HS.out.cp.below.cell (p := ⟨b4, off4 + a, none⟩) hbw4).trans hc4
        have HU := Lib.hid hu4
        have hll2 : l.length ≤ 1000000 := by omega
        obtain ⟨a5, k5, rfl⟩ := hu4.len
        have HLK2 := Lib.hid (fun f hf W h k => HLK.out f hf (.slice a5 l.length k5) l a W h hll2 hnb k)
        clear hp h2 hul hml hmm hu4 hc4 hnb HUN
        generalize l12 ++ routesK fs x 0 (rr.take a) = lk at *
        go_wp2_with (fail)
        clear hc4' hbw4
        go_loopw [6, 39] (fun o kk w2 => ∃ m : Nat, m ≤ nl ∧ kk = .int .i64 (m : Int) ∧ CqS w x (.slice an L cn) (.slice am M cm) (.slice (some ⟨b4, off4, none⟩) N cp) o (lk ++ rlook (fs.take m) x a l) (.slice a8 nl k8) nl w2) (fun _ kk _ => nl - (intOf kk).toNat)
        case atStart => exact ⟨0, Nat.zero_le _, rfl, by show CqS _ _ _ _ _ _ (lk ++ []) _ _ _; rw [List.append_nil]; exact HS.out⟩
        case round =>
          obtain ⟨m, hm, rfl, hS2⟩ := hrel
          have HS2 := Lib.hid hS2
          by_cases hlt2 : m < nl
          · obtain ⟨f, hf⟩ : ∃ f, fs[m]? = some f := ⟨_, List.getElem?_eq_getElem (by have := HNN.out; omega)⟩
            have hmi : (m : Int) < (nl : Int) := by omega
            have hlkr := hS2.lk
            obtain ⟨g8, rfl, _⟩ := owns_some hlkr (by omega)
            have hcf := own_cell hlkr (j := m) (u := lookV f x (.slice an L cn) (.slice am M cm)) (by rw [HFS.out, List.getElem?_map, hf]; rfl)
            rw [HLV.out] at hcf
            have hff := looksN_mem (k := x.kind) (f := f) (by rw [HFS.out]; exact List.mem_of_getElem? hf)
            have HRT : Hid (lk ++ rlook (fs.take (m + 1)) x a l = (lk ++ rlook (fs.take m) x a l) ++ lookW f x a l) := by unfold Hid; rw [rlook_take hf, List.append_assoc]
            have hrl := rlook_len (fs := fs.take m) (by rw [List.length_take]; omega) x a l
            have HLF := Lib.hid fun W h k => HLK2.out f hff W h k
            have hent : ∀ args w, (callFunc f args).run Try.prog w = .ok (.enter f args) w := by
              rcases hff with rfl | rfl | rfl
              · exact enters_of Try.func54 (by kernel_rfl) rfl
              · exact enters_of Try.func53 (by kernel_rfl) rfl
              · exact enters_of Try.func52 (by kernel_rfl) rfl
            have hrm := rlook_len (fs := fs.take (m + 1)) (by rw [List.length_take]; omega) x a l
            have hlm : (lk ++ rlook (fs.take m) x a l).length + (lookW f x a l).length ≤ 1000000 := by
              rw [rlook_take hf, List.length_append] at hrm
              rw [List.length_append]; omega
            clear hf hff hlkr hS2 hrl hrm
            have hs2 := HS2.out.cp.pbox.2
            generalize lk ++ rlook (fs.take m) x a l = lm at *
            go_wp2_with (first
              | (go_at_fn f; (with_reducible refine (HLF.out _ (HX.out.next HS2.out.cp.below) (HU.out.next HS2.out.cp.below)).mono ?_); rintro e w4 ⟨v4, rfl, hv4, hb4⟩; have HS4 := Lib.hid (HS2.out.next hb4); have HV4 := Lib.hid hv4; have hs4 := HS4.out.cp.pbox.2; obtain ⟨a4, k4, rfl, -⟩ := hv4.dat; clear hv4 hb4)
              | (at_builtin; refine wpList_append_wrs rfl _ _ 32 rfl (w.heap.size + 2) 59 i0 (.agg #[.int .i64 0, .int .i64 0, .int .i64 0]) 24 Try.underlying32 HI.out hz0 hz1 hz2 rfl _ lm rfl HS4.out.cp.row _ (lookW f x a l) rfl HV4.out (by unfold maxLen; omega) (by omega) hs4 ?_; intro v' w6 hown' hgrow; have HS6 : Hid (CqS w x (.slice an L cn) (.slice am M cm) (.slice (some ⟨b4, off4, none⟩) N cp) v' (lm ++ lookW f x a l) (.slice (some ⟨g8, 0, none⟩) nl k8) nl w6) := HS4.out.grow hgrow hown'; clear hown' hgrow))
            go_roundw
            case rel => exact ⟨m + 1, by omega, by go_num, by rw [HRT.out]; exact HS6.out⟩
            case measure => simp [intOf]; omega
          · obtain rfl : m = nl := by omega
            have HRT : Hid (l12 ++ routesK fs x 0 (rr.take (a + 1)) = lk ++ rlook (fs.take m) x a l) := by unfold Hid; rw [HUT.out, List.take_of_length_le (by rw [HNN.out]; exact Nat.le_refl _)]
            clear hS2
            go_wp2
            go_roundw
            case rel => exact ⟨a + 1, by omega, by go_num, by rw [HRT.out]; exact HS2.out⟩
            case measure => simp [intOf]; omega
      · obtain rfl : a = N := by omega
        have HE : Hid (HasWrs wr u6 (checkW x rr)) := by
          have h := wrs_of_owns HS.out.cp.row
          rw [List.take_of_length_le (by rw [HN.out]; exact Nat.le_refl _)] at h
          unfold Hid
          rw [HCK.out]
          exact h
        go_wp2
        go_ret
        exact ⟨_, rfl, HE.out, HS.out.cp.below⟩
  · have HE : Hid (checkW x rr = unks x 0 rr) := by unfold Hid checkW; rw [if_pos hu]
    have hpos : 0 < (unks x 0 rr).length := List.length_pos_iff.2 hu
    clear hu
    go_upto_region 2 with (go_at_call 29; (with_reducible refine (HUK.out _ (HX.out.next HS0.out.below) (HV.out.next HS0.out.below)).mono ?_); rintro e w1 ⟨v1, rfl, hv1, hb1⟩; have HS1 := Lib.hid (HS0.out.next hb1); have HV1 := Lib.hid hv1; obtain ⟨a1, k1, rfl, -⟩ := hv1.dat; clear hv1 hb1)
    have HR : Hid (HasWrs w1 (.slice a1 (unks x 0 rr).length k1) (checkW x rr)) := by rw [HE.out]; exact HV1.out
    clear HV1
    generalize (unks x 0 rr).length = Z at *
    have hpi : (0 : Int) < (Z : Int) := by omega
    go_wp2
    go_ret
    exact ⟨_, rfl, HR.out, HS1.out.below⟩
theorem Try.Feasible_calls (x : Ins) (vn vm v : Value) (rr : Rts) (w : World) (hx : HasIns w vn vm x) (hg : Fine x) (hl : rr.length ≤ 500) (hm : many rr ≤ 2200) (hv : HasRts w v rr) :
    Calls Try.prog 19 #[insV x vn vm, planV v] w fun e w' => e = .returned (.bool (feasB x rr)) ∧ Below w.heap.size w w' := by
  have HX := Lib.hid hx
  have HCK := Lib.hid fun W h k => Try.Check_calls x vn vm v rr W h hg hl hm k
  obtain ⟨an, cn, rfl, _⟩ := hx.nodes.dat
  obtain ⟨am, cm, rfl, _⟩ := hx.matrix.dat
  have HV := Lib.hid hv
  obtain ⟨ap, cp, rfl⟩ := hv.len
  have HF : Hid (feasB x rr = decide ((checkW x rr).length = 0)) := by unfold Hid feasB; rw [decide_eq_decide, List.length_eq_zero_iff]
  unfold planV at HCK ⊢
  unfold insV at HCK ⊢
  clear hx hv hg hl hm
  generalize rr.length = N at *
  generalize x.nodes.length = L at *
  generalize x.matrix.length = M at *
  have HS0 := Lib.hid (lwS_start w x (.slice an L cn) (.slice am M cm) (.slice ap N cp))
  obtain ⟨c0, c1, c2, c3, c4, c5, c6, c7, hp0, -⟩ := lwS_S HS0.out
  go_enter Try.func19, Try.ntmps19
  go_wp2_with (go_at_call 14; (with_reducible refine (HCK.out _ (HX.out.next HS0.out.below) (HV.out.next HS0.out.below)).mono ?_); rintro e w1 ⟨v1, rfl, hv1, hb1⟩; have HS1 := Lib.hid (HS0.out.next hb1); obtain ⟨a1, k1, rfl, -⟩ := hv1.dat; clear hv1 hb1)
  go_ret
  exact ⟨cret_is (by rw [HF.out, Bool.eq_iff_iff, beq_iff_eq, decide_eq_true_eq]; omega), HS1.out.below⟩
theorem Try.feasC : Try.FeasC :=
  ⟨fun x vn vm v rr W hx hg hl hm hv => Try.Check_calls x vn vm v rr W hx hg hl hm hv, fun x vn vm v rr W hx hg hl hm hv => Try.Feasible_calls x vn vm v rr W hx hg hl hm hv, fun x vn vm v r W hx hg hl hv => Try.Loads_calls x vn vm v r W hx hg (by omega) hv, fun x vn vm v r W hx hg hl hv => Try.Times_calls x vn vm v r W hx hg (by omega) hv⟩
end Go.Proofs
/- Plain facts: what is wrong with a plan hangs on few things of its instance; it is the same in its normal form. No program. -/
namespace Go.Feas
open Go.Canon Go.Plans Go.Metric Go.Root
/-- Two instances that are alike in all that is looked at. -/
structure Alike (x y : Ins) : Prop where
  kind : y.kind = x.kind
  cap : y.cap = x.cap
  fleet : y.fleet = x.fleet
  len : y.nodes.length = x.nodes.length
  unit : unit y = unit x
  way : ∀ i j, way y i j = way x i j
  nd : ∀ i, (at' y i).demand = (at' x i).demand ∧ (at' y i).ready = (at' x i).ready ∧ (at' y i).due = (at' x i).due ∧ (at' y i).service = (at' x i).service ∧ (at' y i).mate = (at' x i).mate
theorem Alike.nodes {x y : Ins} (h : Alike x y) (r : List Int) : nodesB y r = nodesB x r := by unfold nodesB nodeB; rw [h.len]
theorem Alike.loadsF {x y : Ins} (h : Alike x y) (r : List Int) : loadsF y r = loadsF x r := by
  have e : loadStep y = loadStep x := by
    funext t s; unfold loadStep Feas.nd; rw [(h.nd _).1]
  unfold Feas.loadsF; rw [e]
theorem Alike.loads {x y : Ins} (h : Alike x y) (r : List Int) : loads y r = loads x r := by unfold Feas.loads; rw [h.nodes, h.loadsF]
theorem Alike.timesF {x y : Ins} (h : Alike x y) (r : List Int) : timesF y r = timesF x r := by
  have e1 : begins y = begins x := by
    funext t s; unfold begins Feas.nd; rw [h.way, h.unit, (h.nd _).2.1]
  have e2 : timeStep y = timeStep x := by
    funext t s; unfold timeStep Feas.nd; rw [e1, h.unit, (h.nd _).2.2.1, (h.nd _).2.2.2.1]
  have e3 : tstart y = tstart x := by unfold tstart; rw [h.unit, (h.nd _).2.1]
  unfold Feas.timesF; rw [e2, e3]
theorem Alike.lateI {x y : Ins} (h : Alike x y) (r : List Int) : lateI y r = lateI x r := by
  unfold Feas.lateI back; rw [h.nodes, h.timesF, h.unit, (h.nd _).2.2.1, h.way]
theorem Alike.times {x y : Ins} (h : Alike x y) (r : List Int) : timesL y r = timesL x r := by unfold timesL; rw [h.nodes, h.timesF]
theorem Alike.least {x y : Ins} (h : Alike x y) : least y = least x := by unfold Feas.least; rw [h.kind]
theorem Alike.bad {x y : Ins} (h : Alike x y) : badB y = badB x := by funext s; unfold badB; rw [h.least, h.len]
theorem Alike.unks {x y : Ins} (h : Alike x y) : ∀ (rr : Rts) (i : Nat), unks y i rr = unks x i rr
  | [], _ => rfl
  | r :: rr, i => by rw [Feas.unks, Feas.unks, h.unks rr (i + 1)]; unfold unkR; rw [h.bad]
theorem Alike.fleetW {x y : Ins} (h : Alike x y) (rr : Rts) : fleetW y rr = fleetW x rr := by unfold Feas.fleetW; rw [h.kind, h.fleet]
theorem Alike.pairK {x y : Ins} (h : Alike x y) (i : Nat) (r : List Int) (k : Nat) : pairK y i r k = pairK x i r k := by
  unfold Feas.pairK Feas.nd; rw [(h.nd _).1, (h.nd _).2.2.2.2]
theorem Alike.pairsW {x y : Ins} (h : Alike x y) (i : Nat) (r : List Int) : ∀ k, pairsW y i r k = pairsW x i r k
  | 0 => rfl
  | k + 1 => by rw [Feas.pairsW, Feas.pairsW, h.pairsW i r k, h.pairK]
theorem Alike.routeW {x y : Ins} (h : Alike x y) (i : Nat) (r : List Int) : routeW y i r = routeW x i r := by
  have e : overB y = overB x := by funext v; unfold overB; rw [h.cap]
  unfold Feas.routeW loadW lateW; rw [h.kind, h.loads, e, h.lateI, h.pairsW]
theorem Alike.routesW {x y : Ins} (h : Alike x y) : ∀ (rr : Rts) (i : Nat), routesW y i rr = routesW x i rr
  | [], _ => rfl
  | r :: rr, i => by rw [Feas.routesW, Feas.routesW, h.routesW rr (i + 1), h.routeW]
theorem Alike.check {x y : Ins} (h : Alike x y) (rr : Rts) : checkW y rr = checkW x rr := by
  unfold checkW; rw [h.unks, h.least, h.len, h.fleetW, h.kind, h.routesW]
/-! The normal form. -/
theorem whole_at {l : List Nd} (h : whole l = true) (i : Nat) : (l.getD i zeroNd).x = 10 * ((shrink l).getD i zeroNd).x ∧ (l.getD i zeroNd).y = 10 * ((shrink l).getD i zeroNd).y := by
  by_cases hi : i < l.length
  · have e1 : l.getD i zeroNd = l[i] := by simp [List.getD, hi]
    have e2 : (shrink l).getD i zeroNd = shrinkNd l[i] := by simp [shrink, List.getD, hi]
    have h1 := List.all_eq_true.1 h l[i] (List.getElem_mem hi)
    simp only [wholeNd, Bool.and_eq_true, decide_eq_true_eq] at h1
    rw [e1, e2]
    unfold shrinkNd
    dsimp only
    have d1 := Int.mul_tdiv_add_tmod l[i].x 10
    have d2 := Int.mul_tdiv_add_tmod l[i].y 10
    omega
  · have e1 : l.getD i zeroNd = zeroNd := by simp [List.getD, List.getElem?_eq_none (show l.length ≤ i by omega)]
    have e2 : (shrink l).getD i zeroNd = zeroNd := by simp [shrink, List.getD, List.getElem?_eq_none (show l.length ≤ i by omega)]
    rw [e1, e2]; exact ⟨rfl, rfl⟩
theorem dist_norm (k : Nat) : ∀ (s : Nat) (l : List Nd) (i j : Nat), (∀ i, ((l.getD i zeroNd).x.natAbs ≤ 100000000 ∧ (l.getD i zeroNd).y.natAbs ≤ 100000000)) →
    dist k (10 ^ (normN s l).1) (((normN s l).2.getD j zeroNd).x - ((normN s l).2.getD i zeroNd).x).natAbs (((normN s l).2.getD j zeroNd).y - ((normN s l).2.getD i zeroNd).y).natAbs
      = dist k (10 ^ s) ((l.getD j zeroNd).x - (l.getD i zeroNd).x).natAbs ((l.getD j zeroNd).y - (l.getD i zeroNd).y).natAbs
  | 0, _, _, _, _ => rfl
  | s + 1, l, i, j, hb => by
    rw [normN]
    by_cases hw : whole l = true
    · rw [if_pos hw]
      have hi := whole_at hw i
      have hj := whole_at hw j
      have bi := hb i
      have bj := hb j
      rw [dist_norm k s (shrink l) i j (fun i => by have := whole_at hw i; have := hb i; omega)]
      rw [hi.1, hi.2, hj.1, hj.2] at *
      generalize ((shrink l).getD i zeroNd).x = a at *
      generalize ((shrink l).getD i zeroNd).y = b at *
      generalize ((shrink l).getD j zeroNd).x = c at *
      generalize ((shrink l).getD j zeroNd).y = d at *
      rw [show 10 * c - 10 * a = 10 * (c - a) by omega, show 10 * d - 10 * b = 10 * (d - b) by omega, Int.natAbs_mul, Int.natAbs_mul, Nat.pow_succ, Nat.mul_comm (10 ^ s) 10]
      exact (dist_tens (kind := k) (t := 10 ^ s) (x := (c - a).natAbs) (y := (d - b).natAbs) (by omega) (by omega) (Nat.pow_pos (by omega))).symm
    · rw [if_neg hw]
theorem way_norm {x : Ins} (h : Fine x) (i j : Nat) : way (norm x) i j = way x i j := by
  have hk := norm_keeps x
  unfold way
  rw [hk.2.2.1, hk.2.2.2.2.2, norm_length]
  split
  · rfl
  · have hs := h.scale
    by_cases h1 : 1 ≤ x.scale ∧ x.scale ≤ 6
    · unfold norm
      rw [if_pos h1]
      unfold at'
      dsimp only
      rw [Int.toNat_natCast, dist_norm _ _ _ i j (fun i => by have := h.xy i; unfold at' at this; omega)]
    · unfold norm
      rw [if_neg h1]
theorem alike_norm {x : Ins} (h : Fine x) : Alike x (norm x) := by
  have hk := norm_keeps x
  refine ⟨hk.2.1, hk.2.2.2.1, hk.2.2.2.2.1, norm_length x, ?_, way_norm h, fun i => (norm_shr x i).rest⟩
  unfold unit; rw [hk.2.2.1]
theorem fine_norm {x : Ins} (h : Fine x) : Fine (norm x) := by
  have hk := norm_keeps x
  have hsh := fun i => norm_shr x i
  refine ⟨hk.2.1 ▸ h.kind, hk.2.2.1 ▸ h.metric, ?_, hk.2.2.2.1 ▸ h.cap, hk.2.2.2.2.1 ▸ h.fleet, by rw [norm_length]; exact h.lo, by rw [norm_length]; exact h.hi, ?_, fun i => ?_, fun i => ?_, fun i => ?_, fun i => ?_, fun i => ?_⟩
  · have := norm_scale x
    have := h.scale
    have h0 : 0 ≤ (norm x).scale := by
      unfold norm; split
      · exact Int.natCast_nonneg _
      · omega
    omega
  · rw [hk.2.2.1, hk.2.2.2.2.2, norm_length]; exact h.matrix
  · have := (hsh i).x
    have := (hsh i).y
    have := h.xy i
    omega
  · rw [(hsh i).rest.1]; exact h.demand i
  · rw [(hsh i).rest.2.1]; exact h.ready i
  · rw [(hsh i).rest.2.2.1]; exact h.due i
  · rw [(hsh i).rest.2.2.2.1]; exact h.service i
theorem check_normal {x : Ins} (h : Fine x) (rr : Rts) : checkW (norm x) rr = checkW x rr := (alike_norm h).check rr
#print axioms check_normal
#print axioms fine_norm
end Go.Feas
/- Plain facts: how many wrongs there are does not hang on the order of routes, nor on empty ones; wider limits stay feasible. No program. -/
namespace Go.Feas
open Go.Canon Go.Plans
/-! How many. -/
theorem unkR_count (x : Ins) (i : Nat) (r : List Int) : (unkR x i r).length = (r.filter (badB x)).length := by unfold unkR; rw [List.length_map]
theorem unks_count (x : Ins) : ∀ (rr : Rts) (i : Nat), (unks x i rr).length = (rr.flatten.filter (badB x)).length
  | [], _ => rfl
  | r :: rr, i => by rw [unks, List.length_append, unkR_count, unks_count x rr, List.flatten_cons, List.filter_append, List.length_append]
def routeN (x : Ins) (r : List Int) : Nat := (routeW x 0 r).length
theorem pairsW_count (x : Ins) (i j : Nat) (r : List Int) : ∀ k, (pairsW x i r k).length = (pairsW x j r k).length
  | 0 => rfl
  | k + 1 => by
    rw [pairsW, pairsW, List.length_append, List.length_append, pairsW_count x i j r k]
    congr 1
    unfold pairK
    split
    · rfl
    · split <;> rfl
theorem routeW_count (x : Ins) (i : Nat) (r : List Int) : (routeW x i r).length = routeN x r := by
  have h1 : (loadW x i r).length = (loadW x 0 r).length := by unfold loadW; split <;> rfl
  have h2 : (lateW x i r).length = (lateW x 0 r).length := by
    unfold lateW
    split
    · rfl
    · split <;> rfl
  have h3 := pairsW_count x i 0 r r.length
  unfold routeN routeW
  rw [List.length_append, List.length_append, h1]
  congr 1
  split
  · rfl
  · rw [List.length_append, List.length_append, h2]
    congr 1
    split
    · rfl
    · exact h3
theorem routeN_nil (x : Ins) : routeN x [] = 0 := by
  unfold routeN routeW loadW lateW loads lateI loadsF
  simp [pairsW, nodesB]
theorem routesW_count (x : Ins) : ∀ (rr : Rts) (i : Nat), (routesW x i rr).length = (rr.map (routeN x)).sum
  | [], _ => rfl
  | r :: rr, i => by rw [routesW, List.length_append, routeW_count, routesW_count x rr, List.map_cons, List.sum_cons]
/-- Two plans with as many of everything. -/
structure Even (x : Ins) (p q : Rts) : Prop where
  bad : (q.flatten.filter (badB x)).length = (p.flatten.filter (badB x)).length
  cnt : ∀ c, countR q c = countR p c
  full : full q = full p
  sum : (q.map (routeN x)).sum = (p.map (routeN x)).sum
theorem cnts_even {p q : Rts} (lo : Nat) (h : ∀ c, countR q c = countR p c) : ∀ n, cnts lo q n = cnts lo p n
  | 0 => rfl
  | n + 1 => by rw [cnts, cnts, cnts_even lo h n, h]
theorem Even.check {x : Ins} {p q : Rts} (h : Even x p q) : (checkW x q).length = (checkW x p).length := by
  have e1 : (unks x 0 q).length = (unks x 0 p).length := by rw [unks_count, unks_count, h.bad]
  have e2 : fleetW x q = fleetW x p := by unfold fleetW; rw [h.full]
  by_cases hu : unks x 0 p = []
  · have hq : unks x 0 q = [] := List.length_eq_zero_iff.1 (by rw [e1, hu]; rfl)
    have c1 : checkW x p = cnts (least x) p x.nodes.length ++ (fleetW x p ++ if x.kind = 1 then [] else routesW x 0 p) := by unfold checkW; rw [if_neg (by rw [hu]; simp)]
    have c2 : checkW x q = cnts (least x) q x.nodes.length ++ (fleetW x q ++ if x.kind = 1 then [] else routesW x 0 q) := by unfold checkW; rw [if_neg (by rw [hq]; simp)]
    have e3 : (if x.kind = 1 then ([] : List Wr) else routesW x 0 q).length = (if x.kind = 1 then ([] : List Wr) else routesW x 0 p).length := by
      split
      · rfl
      · rw [routesW_count, routesW_count, h.sum]
    rw [c1, c2, cnts_even _ h.cnt, e2]
    simp only [List.length_append, e3]
  · have hq : unks x 0 q ≠ [] := fun e => hu (List.length_eq_zero_iff.1 (by rw [← e1, e]; rfl))
    have c1 : checkW x p = unks x 0 p := by unfold checkW; rw [if_pos hu]
    have c2 : checkW x q = unks x 0 q := by unfold checkW; rw [if_pos hq]
    rw [c1, c2, e1]
theorem feasB_len (x : Ins) (rr : Rts) : feasB x rr = decide ((checkW x rr).length = 0) := by
  unfold feasB; rw [decide_eq_decide]; exact List.length_eq_zero_iff.symm
theorem Even.feas {x : Ins} {p q : Rts} (h : Even x p q) : feasB x q = feasB x p := by rw [feasB_len, feasB_len, h.check]
theorem full_append (p q : Rts) : full (p ++ q) = full p + full q := by unfold full normR; rw [List.filter_append, List.length_append]
/-- The routes from one on, an empty one, and those ahead. -/
def turned (rr : Rts) (k : Nat) : Rts := (rr.drop k ++ [[]]) ++ rr.take k
theorem even_turned (x : Ins) (rr : Rts) (k : Nat) : Even x rr (turned rr k) := by
  have hs : rr.take k ++ rr.drop k = rr := List.take_append_drop k rr
  have hf : (turned rr k).flatten = (rr.drop k).flatten ++ (rr.take k).flatten := by unfold turned; simp
  have hf0 : rr.flatten = (rr.take k).flatten ++ (rr.drop k).flatten := by rw [← List.flatten_append, hs]
  refine ⟨?_, fun c => ?_, ?_, ?_⟩
  · rw [hf, hf0, List.filter_append, List.filter_append, List.length_append, List.length_append, Nat.add_comm]
  · rw [countR_flat, countR_flat, hf, hf0, List.count_append, List.count_append, Nat.add_comm]
  · have e : full rr = full (rr.take k) + full (rr.drop k) := by rw [← full_append, hs]
    have e0 : full [[]] = 0 := rfl
    unfold turned
    rw [full_append, full_append, e, e0]; omega
  · have e : (rr.map (routeN x)).sum = ((rr.take k).map (routeN x)).sum + ((rr.drop k).map (routeN x)).sum := by rw [← List.sum_append, ← List.map_append, hs]
    unfold turned
    rw [List.map_append, List.map_append, List.sum_append, List.sum_append, e]
    simp only [List.map_cons, List.map_nil, List.sum_cons, List.sum_nil, routeN_nil]
    omega
theorem even_norm (x : Ins) (rr : Rts) : Even x rr (normR rr) := by
  refine ⟨by rw [norm_flat], fun c => norm_count rr c, by unfold full; rw [pnorm_own], ?_⟩
  induction rr with
  | nil => rfl
  | cons r rr ih =>
    cases r with
    | nil =>
      show ((normR rr).map (routeN x)).sum = _
      rw [ih, List.map_cons, List.sum_cons, routeN_nil, Nat.zero_add]
    | cons a l =>
      show (((a :: l) :: normR rr).map (routeN x)).sum = _
      rw [List.map_cons, List.sum_cons, ih, List.map_cons, List.sum_cons]
/-! Wider limits. -/
structure Wider (x y : Ins) : Prop where
  kind : y.kind = x.kind
  cap : x.cap ≤ y.cap
  fleet : 0 ≤ x.fleet ∧ (x.fleet = 0 → y.fleet = 0) ∧ x.fleet ≤ y.fleet
  len : y.nodes.length = x.nodes.length
  unit : unit y = unit x
  way : ∀ i j, way y i j = way x i j
  nd : ∀ i, (at' y i).demand = (at' x i).demand ∧ (at' y i).ready = (at' x i).ready ∧ (at' x i).due ≤ (at' y i).due ∧ (at' y i).service = (at' x i).service ∧ (at' y i).mate = (at' x i).mate
theorem Wider.nodes {x y : Ins} (h : Wider x y) (r : List Int) : nodesB y r = nodesB x r := by unfold nodesB nodeB; rw [h.len]
theorem Wider.loads {x y : Ins} (h : Wider x y) (r : List Int) : loads y r = loads x r := by
  have e : loadStep y = loadStep x := by
    funext t s; unfold loadStep Feas.nd; rw [(h.nd _).1]
  unfold Feas.loads; rw [h.nodes]; unfold Feas.loadsF; rw [e]
structure Sooner (t u : TS) : Prop where
  now : u.now = t.now
  pos : u.pos = t.pos
  late : t.late < 0 → u.late < 0
theorem unit_mono {x : Ins} {a b : Int} (h : a ≤ b) : Feas.unit x * a ≤ Feas.unit x * b := by unfold Feas.unit; split <;> omega
theorem Wider.times {x y : Ins} (h : Wider x y) (r : List Int) : Sooner (timesF x r) (timesF y r) := by
  refine snoc_ind (P := fun r => Sooner (timesF x r) (timesF y r)) ?_ (fun l a ih => ?_) r
  · refine ⟨?_, rfl, fun h => h⟩
    show Feas.unit y * (at' y 0).ready = Feas.unit x * (at' x 0).ready
    rw [h.unit, (h.nd 0).2.1]
  · rw [timesF_snoc, timesF_snoc]
    have e : begins y (timesF y l) a = begins x (timesF x l) a := by
      unfold begins Feas.nd; rw [h.way, h.unit, (h.nd _).2.1, ih.now, ih.pos]
    refine ⟨?_, rfl, ?_⟩
    · show begins y (timesF y l) a + Feas.unit y * (Feas.nd y a).service = begins x (timesF x l) a + Feas.unit x * (Feas.nd x a).service
      unfold Feas.nd; rw [e, h.unit, (h.nd _).2.2.2.1]
    · show (if (timesF x l).late < 0 ∧ Feas.unit x * (Feas.nd x a).due < begins x (timesF x l) a then _ else _) < 0 → (if (timesF y l).late < 0 ∧ Feas.unit y * (Feas.nd y a).due < begins y (timesF y l) a then _ else _) < 0
      rw [e, h.unit]
      have hd := unit_mono (x := x) (h.nd a.toNat).2.2.1
      unfold Feas.nd
      intro h1
      by_cases hc : (timesF x l).late < 0 ∧ Feas.unit x * (at' x a.toNat).due < begins x (timesF x l) a
      · rw [if_pos hc] at h1
        have : (0 : Int) ≤ ((timesF x l).out.length : Int) := Int.natCast_nonneg _
        omega
      · rw [if_neg hc] at h1
        have h2 := ih.late h1
        rw [if_neg (fun h3 => hc ⟨h1, by omega⟩)]
        exact h2
theorem late_range (x : Ins) (r : List Int) : -1 ≤ lateI x r ∧ lateI x r ≤ r.length := by
  have key : ∀ r : List Int, -1 ≤ (timesF x r).late ∧ (timesF x r).late ≤ r.length ∧ (timesF x r).out.length = r.length := by
    refine snoc_ind ?_ fun l a ih => ?_
    · exact ⟨Int.le_refl _, (by show (-1 : Int) ≤ 0; decide), rfl⟩
    · rw [timesF_snoc, List.length_append]
      unfold timeStep
      dsimp only
      refine ⟨?_, ?_, by rw [List.length_append, ih.2.2]; rfl⟩
      · split
        · have : (0 : Int) ≤ ((timesF x l).out.length : Int) := Int.natCast_nonneg _
          omega
        · exact ih.1
      · simp only [List.length_cons, List.length_nil]
        split
        · rw [ih.2.2]; omega
        · have := ih.2.1; omega
  have k := key r
  unfold lateI
  split
  · omega
  · split
    · omega
    · split
      · omega
      · omega
theorem lateW_nil (x : Ins) (i : Nat) (r : List Int) : lateW x i r = [] ↔ lateI x r < 0 := by
  have h := late_range x r
  unfold lateW
  constructor
  · intro e
    by_cases h1 : 0 ≤ lateI x r ∧ lateI x r < (r.length : Int)
    · rw [if_pos h1] at e; cases e
    · rw [if_neg h1] at e
      by_cases h2 : lateI x r = (r.length : Int)
      · rw [if_pos h2] at e; cases e
      · omega
  · intro e
    rw [if_neg (by omega), if_neg (by omega)]
theorem Wider.late {x y : Ins} (h : Wider x y) {r : List Int} (hl : lateI x r < 0) : lateI y r < 0 := by
  have ht := h.times r
  unfold lateI at hl ⊢
  rw [h.nodes]
  by_cases h0 : r.length = 0
  · rw [if_pos h0]; decide
  · rw [if_neg h0] at hl ⊢
    cases hn : nodesB x r with
    | false => rw [hn, if_pos rfl] at hl; cases hl
    | true =>
      rw [hn, if_neg (by decide)] at hl
      rw [if_neg (by decide)]
      have hd := unit_mono (x := x) (h.nd 0).2.2.1
      by_cases hc : (timesF x r).late < 0 ∧ back x (timesF x r) = true
      · rw [if_pos hc] at hl; omega
      · rw [if_neg hc] at hl
        have h2 := ht.late hl
        have h3 : back y (timesF y r) = false := by
          have h4 : back x (timesF x r) = false := by
            cases hb : back x (timesF x r) with
            | false => rfl
            | true => exact absurd ⟨hl, hb⟩ hc
          unfold back at h4 ⊢
          rw [decide_eq_false_iff_not] at h4 ⊢
          rw [h.unit, ht.now, ht.pos, h.way]
          omega
        rw [if_neg (fun h5 => by rw [h3] at h5; exact absurd h5.2 (by decide))]
        exact h2
theorem loadW_nil (x : Ins) (i : Nat) (r : List Int) : loadW x i r = [] ↔ ∀ v ∈ loads x r, overB x v = false := by
  unfold loadW
  cases h : (loads x r).findIdx? (overB x) with
  | none =>
    rw [List.findIdx?_eq_none_iff] at h
    simpa using h
  | some k =>
    rw [List.findIdx?_eq_some_iff_getElem] at h
    obtain ⟨hk, h1, _⟩ := h
    constructor
    · intro e; cases e
    · intro e
      have := e _ (List.getElem_mem hk)
      rw [h1] at this
      cases this
theorem Wider.route {x y : Ins} (h : Wider x y) {i : Nat} {r : List Int} (hr : routeW x i r = []) : routeW y i r = [] := by
  have hp : ∀ k, pairsW y i r k = pairsW x i r k := by
    intro k
    induction k with
    | zero => rfl
    | succ k ih =>
      rw [pairsW, pairsW, ih]
      unfold pairK Feas.nd
      rw [(h.nd _).1, (h.nd _).2.2.2.2]
  unfold routeW at hr ⊢
  rw [List.append_eq_nil_iff] at hr ⊢
  refine ⟨?_, ?_⟩
  · rw [loadW_nil] at *
    intro v hv
    rw [h.loads] at hv
    have h1 := hr.1 v hv
    have hc := h.cap
    simp only [overB, Bool.or_eq_false_iff, decide_eq_false_iff_not] at h1 ⊢
    omega
  · rw [h.kind]
    by_cases k2 : x.kind = 2
    · rw [if_pos k2]
    · rw [if_neg k2] at *
      rw [List.append_eq_nil_iff] at *
      exact ⟨(lateW_nil _ _ _).2 (h.late ((lateW_nil _ _ _).1 hr.2.1)), by rw [hp]; exact hr.2.2⟩
theorem Wider.routes {x y : Ins} (h : Wider x y) : ∀ {rr : Rts} {i : Nat}, routesW x i rr = [] → routesW y i rr = []
  | [], _, _ => rfl
  | r :: rr, i, e => by
    rw [routesW, List.append_eq_nil_iff] at e ⊢
    exact ⟨h.route e.1, h.routes e.2⟩
theorem Wider.unks {x y : Ins} (h : Wider x y) : ∀ (rr : Rts) (i : Nat), unks y i rr = unks x i rr
  | [], _ => rfl
  | r :: rr, i => by
    rw [Feas.unks, Feas.unks, h.unks rr (i + 1)]
    have e : badB y = badB x := by funext s; unfold badB least; rw [h.kind, h.len]
    unfold unkR; rw [e]
theorem Wider.feas {x y : Ins} (h : Wider x y) {rr : Rts} (hf : feasB x rr = true) : feasB y rr = true := by
  have hf := of_decide_eq_true hf
  refine decide_eq_true ?_
  unfold checkW at hf ⊢
  rw [h.unks]
  by_cases hu : Feas.unks x 0 rr = []
  · rw [if_neg (by rw [hu]; simp)] at hf ⊢
    rw [List.append_eq_nil_iff, List.append_eq_nil_iff] at hf ⊢
    refine ⟨by unfold least at *; rw [h.kind, h.len]; exact hf.1, ?_, ?_⟩
    · have h1 := hf.2.1
      have h2 := h.fleet
      unfold fleetW at h1 ⊢
      rw [h.kind]
      by_cases k1 : x.kind = 1
      · rw [if_pos k1] at h1 ⊢; exact h1
      · rw [if_neg k1] at h1 ⊢
        by_cases hc : 0 < x.fleet ∧ x.fleet < (full rr : Int)
        · rw [if_pos hc] at h1; cases h1
        · rw [if_neg (by omega)]
    · rw [h.kind]
      by_cases k1 : x.kind = 1
      · rw [if_pos k1]
      · rw [if_neg k1]
        have := hf.2.2
        rw [if_neg k1] at this
        exact h.routes this
  · rw [if_pos hu] at hf
    exact absurd hf hu
#print axioms even_turned
#print axioms even_norm
#print axioms Wider.feas
end Go.Feas
/- Plain facts: an instance with a greater capacity, a greater fleet, and later ends of windows. No program. -/
namespace Go.Feas
open Go.Canon Go.Plans
def wideNd (m : Int) (d : Nd) : Nd := { d with due := min (d.due + m) 100000000 }
def wideL (m : Int) (l : List Nd) : Nat → List Nd
  | 0 => l
  | k + 1 => match l[k]? with
    | some d => (wideL m l k).set k (wideNd m d)
    | none => wideL m l k
def big (x : Ins) : Bool := decide (x.kind = 3 ∨ x.kind = 4)
def wideI (x : Ins) (m : Int) : Ins :=
  { x with cap := if x.kind = 1 then x.cap else min (x.cap + m) 100000000, fleet := if x.kind = 1 ∨ x.fleet ≤ 0 then x.fleet else min (x.fleet + m) 400, nodes := if big x = true then wideL m x.nodes x.nodes.length else x.nodes }
theorem wideL_length (m : Int) (l : List Nd) : ∀ k, (wideL m l k).length = l.length
  | 0 => rfl
  | k + 1 => by
    unfold wideL
    split
    · rw [List.length_set, wideL_length m l k]
    · exact wideL_length m l k
theorem wideL_get (m : Int) (l : List Nd) (i : Nat) : ∀ k, (wideL m l k)[i]? = if i < k then l[i]?.map (wideNd m) else l[i]?
  | 0 => by simp [wideL]
  | k + 1 => by
    unfold wideL
    cases h : l[k]? with
    | none =>
      dsimp only
      rw [wideL_get m l i k]
      by_cases h1 : i < k
      · rw [if_pos h1, if_pos (by omega)]
      · rw [if_neg h1]
        by_cases h2 : i < k + 1
        · have e : i = k := by omega
          subst e
          rw [if_pos h2, h]; rfl
        · rw [if_neg h2]
    | some d =>
      dsimp only
      rw [List.getElem?_set, wideL_length, wideL_get m l i k]
      have hk := (List.getElem?_eq_some_iff.1 h).1
      by_cases h1 : k = i
      · subst h1
        rw [if_pos rfl, if_pos hk, if_pos (Nat.lt_succ_self _), h]; rfl
      · rw [if_neg h1]
        by_cases h2 : i < k
        · rw [if_pos h2, if_pos (by omega)]
        · rw [if_neg h2, if_neg (by omega)]
theorem wide_length (x : Ins) (m : Int) : (wideI x m).nodes.length = x.nodes.length := by
  show (if big x = true then wideL m x.nodes x.nodes.length else x.nodes).length = _
  split
  · exact wideL_length _ _ _
  · rfl
theorem at_wide (x : Ins) (m : Int) (i : Nat) : at' (wideI x m) i = at' x i ∨ at' (wideI x m) i = wideNd m (at' x i) := by
  by_cases hb : big x = true
  · have e : (wideI x m).nodes = wideL m x.nodes x.nodes.length := if_pos hb
    unfold at'
    rw [e]
    simp only [List.getD]
    rw [wideL_get]
    by_cases hi : i < x.nodes.length
    · rw [if_pos hi, List.getElem?_eq_getElem hi]
      exact .inr rfl
    · rw [if_neg hi]
      exact .inl rfl
  · have e : (wideI x m).nodes = x.nodes := if_neg hb
    unfold at'
    rw [e]
    exact .inl rfl
theorem wide_nd {x : Ins} (hx : Fine x) {m : Int} (hm : 0 ≤ m) (i : Nat) : ((at' (wideI x m) i).x = (at' x i).x ∧ (at' (wideI x m) i).y = (at' x i).y ∧ (at' (wideI x m) i).demand = (at' x i).demand ∧ (at' (wideI x m) i).ready = (at' x i).ready ∧ (at' (wideI x m) i).service = (at' x i).service ∧ (at' (wideI x m) i).mate = (at' x i).mate) ∧ (at' x i).due ≤ (at' (wideI x m) i).due ∧ (at' (wideI x m) i).due ≤ 100000000 := by
  have hd := hx.due i
  rcases at_wide x m i with e | e
  · rw [e]; exact ⟨⟨rfl, rfl, rfl, rfl, rfl, rfl⟩, Int.le_refl _, hd.2⟩
  · rw [e]; refine ⟨⟨rfl, rfl, rfl, rfl, rfl, rfl⟩, ?_, ?_⟩
    · show (at' x i).due ≤ min ((at' x i).due + m) 100000000; omega
    · show min ((at' x i).due + m) 100000000 ≤ _; omega
theorem fine_wide {x : Ins} (hx : Fine x) {m : Int} (hm : 0 ≤ m) : Fine (wideI x m) := by
  have nd := fun i => wide_nd hx hm i
  refine ⟨hx.kind, hx.metric, hx.scale, ?_, ?_, ?_, ?_, ?_, ?_, ?_, ?_, ?_, ?_⟩
  · have := hx.cap
    show 0 ≤ (if x.kind = 1 then x.cap else min (x.cap + m) 100000000) ∧ (if x.kind = 1 then x.cap else min (x.cap + m) 100000000) ≤ _
    split <;> omega
  · have := hx.fleet
    show 0 ≤ (if x.kind = 1 ∨ x.fleet ≤ 0 then x.fleet else min (x.fleet + m) 400) ∧ (if x.kind = 1 ∨ x.fleet ≤ 0 then x.fleet else min (x.fleet + m) 400) ≤ _
    split <;> omega
  · rw [wide_length]; exact hx.lo
  · rw [wide_length]; exact hx.hi
  · intro h0; rw [wide_length]; exact hx.matrix h0
  · intro i; rw [(nd i).1.1, (nd i).1.2.1]; exact hx.xy i
  · intro i; rw [(nd i).1.2.2.1]; exact hx.demand i
  · intro i; rw [(nd i).1.2.2.2.1]; exact hx.ready i
  · intro i; have := hx.due i; have := (nd i).2; omega
  · intro i; rw [(nd i).1.2.2.2.2.1]; exact hx.service i
theorem wider_wide {x : Ins} (hx : Fine x) {m : Int} (hm : 0 ≤ m) : Wider x (wideI x m) := by
  have nd := fun i => wide_nd hx hm i
  refine ⟨rfl, ?_, ?_, wide_length x m, rfl, ?_, ?_⟩
  · have := hx.cap
    show x.cap ≤ (if x.kind = 1 then x.cap else min (x.cap + m) 100000000)
    split <;> omega
  · have := hx.fleet
    show 0 ≤ x.fleet ∧ (x.fleet = 0 → (if x.kind = 1 ∨ x.fleet ≤ 0 then x.fleet else min (x.fleet + m) 400) = 0) ∧ x.fleet ≤ (if x.kind = 1 ∨ x.fleet ≤ 0 then x.fleet else min (x.fleet + m) 400)
    split <;> omega
  · intro i j
    unfold way
    rw [wide_length, (nd i).1.1, (nd i).1.2.1, (nd j).1.1, (nd j).1.2.1]
    rfl
  · intro i
    exact ⟨(nd i).1.2.2.1, (nd i).1.2.2.2.1, (nd i).2.1, (nd i).1.2.2.2.2.1, (nd i).1.2.2.2.2.2⟩
theorem wide_feas {x : Ins} (hx : Fine x) {m : Int} (hm : 0 ≤ m) (rr : Rts) (h : feasB x rr = true) : feasB (wideI x m) rr = true := (wider_wide hx hm).feas h
end Go.Feas
namespace Go.Proofs
open Go.RowKit Go.Canon Go.Feas
theorem flat_due : ∀ {l : List Nd} {k : Nat} {d : Nd} (u : Int), l[k]? = some d → (l.flatMap ndC).set (k * 7 + 4) (.int .i64 u) = (l.set k { d with due := u }).flatMap ndC
  | [], k, d, u, h => by simp at h
  | a :: l, 0, d, u, h => by
    have e : a = d := by simpa using h
    subst e
    simp [ndC]
  | a :: l, k + 1, d, u, h => by
    have h' : l[k]? = some d := by simpa using h
    have hl : (ndC a).length = 7 := rfl
    rw [List.flatMap_cons, List.set_cons_succ, List.flatMap_cons, ← flat_due u h', List.set_append_right _ _ (by rw [hl]; omega), hl]
    rw [show (k + 1) * 7 + 4 - 7 = k * 7 + 4 by omega]
#print axioms wide_feas
end Go.Proofs
/- Appends onto one of two rows of a call's own, in a plain region: the new row's block is no other old block; nothing appended changes nothing. No program. -/
namespace Go
open Go.RowKit
attribute [local go_sem] Oper.semAt_some
theorem run_append_nothing {P : Program} {w : World} (base : Nat) (t ty e : TypeId) (i : TypeInfo) (size : Nat) (ht : P.underlying t = some (.slice e)) (hi : P.info? e = some i)
    (v : Value) (n : Nat) (xs : List Value) (hown : w.ownsRow base e size v n xs) (ao : Option Addr) (c : Nat) :
    (Builtin.append_ #[t, t] ty #[v, .slice ao 0 c]).run P w = .ok v w := by
  rcases hown.2 with ⟨rfl, rfl⟩ | ⟨g, cap, cur, rfl, _, _, hnc, _⟩
  · cases ao with
    | none => simp [Builtin.append_, run_underlying ht, sizeOf, typeInfo, hi, Builtin.lenOf, Builtin.firstCells]
    | some ad => simp [Builtin.append_, run_underlying ht, sizeOf, typeInfo, hi, Builtin.lenOf, Builtin.firstCells, loadCells, loadCellsFrom]
  · cases ao with
    | none => simp [Builtin.append_, run_underlying ht, sizeOf, typeInfo, hi, Builtin.lenOf, Builtin.firstCells, hnc, storeCells]
    | some ad => simp [Builtin.append_, run_underlying ht, sizeOf, typeInfo, hi, Builtin.lenOf, Builtin.firstCells, hnc, storeCells, loadCells, loadCellsFrom]
theorem wpList_append_nothing {P : Program} {w : World} {ops : Array Oper} {rest : List Oper} {o : Oper} {a : Act} {Q : Exit → Act → World → Prop} (hgd : o.guard = none) (s x : Operand) (t : TypeId)
    (ho : o.op = .call { callee := .builtin .append, args := #[s, x], argTypes := #[t, t] })
    (base : Nat) (e : TypeId) (i : TypeInfo) (size : Nat) (ht : P.underlying t = some (.slice e)) (hi : P.info? e = some i)
    (v : Value) (n : Nat) (xs : List Value) (hs : a.eval s = v) (hown : w.ownsRow base e size v n xs) (ao : Option Addr) (c : Nat) (hx : a.eval x = .slice ao 0 c)
    (h : wpList P ops Q rest (a.put o.dst v) w) : wpList P ops Q (o :: rest) a w := by
  refine wpList_plain hgd fun K hK => ?_
  have hrun := run_append_nothing (P := P) (w := w) base t o.type e i size ht hi v n xs hown ao c
  unfold Oper.wp
  simp [execOp, ho, resolve, invoke, builtin, hs, hx, hrun, Result.andThen]
  exact hK _ _ h
theorem wpList_append_two {P : Program} {w : World} {ops : Array Oper} {rest : List Oper} {o : Oper} {a : Act} {Q : Exit → Act → World → Prop} (hgd : o.guard = none) (s x : Operand) (t : TypeId)
    (ho : o.op = .call { callee := .builtin .append, args := #[s, x], argTypes := #[t, t] })
    (base : Nat) (e : TypeId) (i : TypeInfo) (z : Value) (size bytes : Nat) (ht : P.underlying t = some (.slice e)) (hi : P.info? e = some i) (hz : i.zero = some z)
    (hsize : i.size = size) (hby : i.bytes = bytes) (hzs : z.cells.size = size) (hsz : 0 < size)
    (g cap n : Nat) (xs : List Value) (hs : a.eval s = .slice (some ⟨g, 0, none⟩) n cap) (hown : w.ownsRow base e size (.slice (some ⟨g, 0, none⟩) n cap) n xs)
    (ad : Addr) (m c : Nat) (news : List Value) (hx : a.eval x = .slice (some ad) m c) (hl : news.length = m * size) (hnews : ∀ j u, news[j]? = some u → w.cell? (ad.add j) = some u) (h1 : ∀ u ∈ news, u.oneCell' = true)
    (h63 : n + m ≤ maxLen) (hbytes : (n + m) * bytes ≤ 140737488355328) (hbase : base ≤ w.heap.size)
    (h : ∀ g' cap' w', w'.ownsRow base e size (.slice (some ⟨g', 0, none⟩) (n + m) cap') (n + m) (xs ++ news) → w.grownBy w' (some g) → (∀ k, k < w.heap.size → k ≠ g → k ≠ g') → wpList P ops Q rest (a.put o.dst (.slice (some ⟨g', 0, none⟩) (n + m) cap')) w') :
    wpList P ops Q (o :: rest) a w := by
  refine wpList_plain hgd fun K hK => ?_
  have hsmall : n + m ≤ 9223372036854775807 := by simp only [maxLen] at h63; omega
  subst hsize
  subst hby
  have hlen : (xs ++ news).length = (n + m) * i.size := by rw [List.length_append, hown.1, hl, Nat.add_mul]
  have own := hown
  rcases hown.2 with ⟨h0, _⟩ | ⟨g1, cap1, cur, hv, hbg, hg, hnc, hcm, hcs, htake⟩
  · cases h0
  · simp only [Value.slice.injEq, Option.some.injEq, Addr.mk.injEq, and_true, true_and] at hv
    obtain ⟨rfl, rfl⟩ := hv
    by_cases hroom : n + m ≤ cap
    · have hfit : n * i.size + news.length ≤ cur.size := by rw [hl, hcs, ← Nat.add_mul]; exact Nat.mul_le_mul_right _ hroom
      have hr := run_append_room (P := P) w t o.type e i ht hi g n cap cur hg ad m c news hl hnews h1 hroom hfit
      unfold Oper.wp execOp
      simp only [ho, resolve, invoke, builtin, Sem.run_bind, Sem.run_pure, Result.andThen_ok, List.map_toArray, List.map_cons, List.map_nil, hs, hx, hr]
      refine hK _ _ (h g cap _ ⟨hlen, .inr ⟨g, cap, _, rfl, hbg, setRow_heap w g cur _ e _ hg, hroom, hcm, ?_, ?_⟩⟩ ⟨rfl, rfl, rfl, by simp, fun k _ hk => setRow_other w g k _ (fun e => hk (by simp [e]))⟩ (fun k _ hk => hk))
      · simp only [List.size_toArray, List.length_append, List.length_take, List.length_drop, Array.length_toList]
        omega
      · rw [htake, ← hlen]
        exact List.take_left
    · obtain ⟨v', w', hrun, r1, r2⟩ := run_append_arg_grows (P := P) w t o.type e i z i.size i.bytes ht hi hz rfl rfl hzs hsz ⟨g, 0, none⟩ n cap xs own.1 (own.cells (g := g) rfl) ad m c news hl hnews (by omega) h63 hbytes
      unfold Oper.wp execOp
      simp only [ho, resolve, invoke, builtin, Sem.run_bind, Sem.run_pure, Result.andThen_ok, List.map_toArray, List.map_cons, List.map_nil, hs, hx, hrun]
      rcases r1.2 with ⟨_, hz0⟩ | ⟨g', cap', cur', rfl, hbg', hgg', hnc', hcm', hcs', htk'⟩
      · omega
      · exact hK _ _ (h g' cap' w' ⟨r1.1, .inr ⟨g', cap', cur', rfl, Nat.le_trans hbase hbg', hgg', hnc', hcm', hcs', htk'⟩⟩ ⟨r2.os, r2.tape, r2.output, r2.size, fun k hk _ => r2.block k hk (by simp)⟩ (fun k hk _ e => by omega))
end Go
