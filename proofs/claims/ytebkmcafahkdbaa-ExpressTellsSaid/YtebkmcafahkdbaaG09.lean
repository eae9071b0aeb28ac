/- express.lacking, over looks that a row holds, and allFields. Conditions: a hundred looks at most. -/
import Derived.Test.YtebkmcafahkdbaaG08
import Derived.Test.YtebkmcafahkdbaaG07
import Derived.Test.YtebkmcafahkdbaaG01
namespace Go.Expr
/-- The fields of the looks that do not fit. -/
def toldE : List (Int × Bool) → List Int
  | [] => []
  | p :: l => (if p.2 = true then [] else [p.1]) ++ toldE l
theorem toldE_append : ∀ (l r : List (Int × Bool)), toldE (l ++ r) = toldE l ++ toldE r
  | [], _ => rfl
  | p :: l, r => by rw [List.cons_append, toldE, toldE, toldE_append l r, List.append_assoc]
theorem toldE_len : ∀ l : List (Int × Bool), (toldE l).length ≤ l.length
  | [] => Nat.le_refl _
  | p :: l => by
    have := toldE_len l
    rw [toldE, List.length_append, List.length_cons]
    split <;> simp <;> omega
theorem toldE_take {l : List (Int × Bool)} {k : Nat} {p : Int × Bool} (h : l[k]? = some p) : toldE (l.take (k + 1)) = toldE (l.take k) ++ (if p.2 = true then [] else [p.1]) := by
  rw [List.take_add_one, h, toldE_append]
  simp [toldE]
end Go.Expr
namespace Go.Proofs
open Go.RowKit Go.Shelf Go.Canon Go.Expr
attribute [local go_sem] Oper.semAt_some
/-- The block b holds looks. -/
def HoldL (x : Ins) (vn vm : Value) (b : Nat) (ls : List (Int × Bool)) (W : World) : Prop :=
  b < W.heap.size ∧ ∀ (i : Nat) (p : Int × Bool), ls[i]? = some p → ∃ v, W.cell? ⟨b, i, none⟩ = some v ∧ IsLook x vn vm v p.1 p.2 W
theorem HoldL.later {x : Ins} {vn vm : Value} {b : Nat} {ls : List (Int × Bool)} {w W : World} (h : HoldL x vn vm b ls w) (hb : Below w.heap.size w W) : HoldL x vn vm b ls W := by
  refine ⟨Nat.lt_of_lt_of_le h.1 hb.size, fun i p hp => ?_⟩
  obtain ⟨v, h1, h2⟩ := h.2 i p hp
  exact ⟨v, (hb.cell (p := ⟨b, i, none⟩) h.1).trans h1, h2.later hb⟩
/-- The instance in its box. -/
structure LbS (w : World) (x : Ins) (vn vm : Value) (W : World) : Prop where
  box : InsBox W w.heap.size x vn vm 25
  below : Below w.heap.size w W
theorem LbS.next {w W W' : World} {x : Ins} {vn vm : Value} (h : LbS w x vn vm W) (hb : Below W.heap.size W W') : LbS w x vn vm W' := ⟨h.box.next hb, h.below.trans (hb.mono h.below.size)⟩
theorem LbS.new (w : World) (x : Ins) (vn vm : Value) : LbS w x vn vm (w.alloc (.cells #[.string x.name, .int .i64 x.kind, .int .i64 x.metric, .int .i64 x.scale, .int .i64 x.cap, .int .i64 x.fleet, vn, vm] 25)) := ⟨InsBox.new w x vn vm 25, fbelow_box w _⟩
/-- The instance in its box, and what lacks so far. -/
structure LkS (w : World) (x : Ins) (vn vm o : Value) (l : List Int) (W : World) : Prop where
  b : LbS w x vn vm W
  row : W.ownsRow (w.heap.size + 1) 3 1 o l.length (l.map intV)
theorem LkS.next {w W W' : World} {x : Ins} {vn vm o : Value} {l : List Int} (h : LkS w x vn vm o l W) (hb : Below W.heap.size W W') : LkS w x vn vm o l W' := ⟨h.b.next hb, fowns_next h.row hb⟩
theorem LkS.grow {w W W' : World} {x : Ins} {vn vm o o' : Value} {l l' : List Int} (h : LkS w x vn vm o l W) (hg : W.grownBy W' o.ownBlock) (hr : W'.ownsRow (w.heap.size + 1) 3 1 o' l'.length (l'.map intV)) : LkS w x vn vm o' l' W' :=
  ⟨⟨h.b.box.grown (Nat.lt_succ_self _) h.row hg, fgrown_below h.b.below h.b.below.size (Nat.le_succ _) h.row hg⟩, hr⟩
theorem lkS_nil {w W : World} {x : Ins} {vn vm : Value} (h : LbS w x vn vm W) : LkS w x vn vm (.slice none 0 0) [] W := ⟨h, ⟨by simp, .inl ⟨rfl, rfl⟩⟩⟩
set_option maxRecDepth 100000 in
set_option maxHeartbeats 4000000 in
theorem Try.lacking_calls {x : Ins} {vn vm : Value} {b c : Nat} {ls : List (Int × Bool)} (w : World) (hx : HasIns w vn vm x) (hl : ls.length ≤ 100) (hv : HoldL x vn vm b ls w) :
    Calls Try.prog 16 #[insV x vn vm, .slice (some ⟨b, 0, none⟩) ls.length c] w fun e w' => ∃ v', e = .returned v' ∧ HasInts w' v' (toldE ls) ∧ Below w.heap.size w w' := by
  have HV := Lib.hid hv
  obtain ⟨an, cn, rfl, _⟩ := hx.nodes.dat
  obtain ⟨am, cm, rfl, _⟩ := hx.matrix.dat
  obtain ⟨i0, hio, hz0, hz1, hz2⟩ := info_parts Try.xinfo3
  have HI := Lib.hid hio
  have HTK : Hid (∀ k p, ls[k]? = some p → toldE (ls.take (k + 1)) = toldE (ls.take k) ++ (if p.2 = true then [] else [p.1])) := fun k p => toldE_take
  have HTL : Hid (∀ k, (toldE (ls.take k)).length ≤ 100) := fun k => Nat.le_trans (toldE_len _) (by rw [List.length_take]; omega)
  have HTA : Hid (toldE (ls.take ls.length) = toldE ls) := by unfold Hid; rw [List.take_length]
  obtain ⟨n, hnn⟩ : ∃ n, ls.length = n := ⟨_, rfl⟩
  have HNN := Lib.hid hnn
  rw [hnn] at hl HTA ⊢
  unfold insV
  clear hx hio hv hnn
  generalize x.nodes.length = L at *
  generalize x.matrix.length = M at *
  have HS0 := Lib.hid (LbS.new w x (.slice an L cn) (.slice am M cm))
  have HA0 := Lib.hid (lkS_nil HS0.out)
  go_enter Try.func16, Try.ntmps16
  go_wp2
  go_loopw [5, 12] (fun o i wr => ∃ k : Nat, k ≤ n ∧ i = .int .i64 (k : Int) ∧ LkS w x (.slice an L cn) (.slice am M cm) o (toldE (ls.take k)) wr) (fun _ i _ => n - (intOf i).toNat)
  case atStart => exact ⟨0, Nat.zero_le _, rfl, HA0.out⟩
  case round =>
    obtain ⟨k, hk, rfl, hS⟩ := hrel
    have HS := Lib.hid hS
    obtain ⟨c0, c1, c2, c3, c4, c5, c6, c7⟩ := hS.b.box.cells
    have hB := hS.b.below
    clear hS HS0 HA0
    by_cases hlt : k < n
    · obtain ⟨p, hp⟩ : ∃ p, ls[k]? = some p := ⟨_, List.getElem?_eq_getElem (by have := HNN.out; omega)⟩
      obtain ⟨v, l0, g, lb, rfl, eg, hcl⟩ := (HV.out.later hB).2 k p hp
      have HC := Lib.hid (hcl wr (Below.refl _ _))
      unfold insV at HC
      have HTE := Lib.hid (HTK.out k p hp)
      have hln := HTL.out k
      have hki : (k : Int) < (n : Int) := by omega
      obtain ⟨f, q⟩ := p
      clear hcl hp hB
      cases q with
      | true =>
        have HST : Hid (toldE (ls.take (k + 1)) = toldE (ls.take k)) := HTE.out.trans (List.append_nil _)
        clear HTE hln
        go_wp2_with (go_at_fn g; refine HC.out.mono ?_; rintro e w1 ⟨rfl, hb1⟩; have HS1 := Lib.hid (HS.out.next hb1); clear hb1)
        go_roundw
        case rel => exact ⟨k + 1, by omega, by go_num, by rw [HST.out]; exact HS1.out⟩
        case measure => simp [intOf]; omega
      | false =>
        have HST : Hid (toldE (ls.take (k + 1)) = toldE (ls.take k) ++ [f]) := HTE.out
        clear HTE
        obtain ⟨S, hSS⟩ : ∃ S, toldE (ls.take k) = S := ⟨_, rfl⟩
        rw [hSS] at HST HS hln
        clear hSS
        obtain ⟨T, hT⟩ : ∃ T, S.length = T := ⟨_, rfl⟩
        have HT := Lib.hid hT
        rw [hT] at hln
        have hml : T + 1 ≤ maxLen := by unfold maxLen; omega
        have hml2 : (T + 1) * 8 ≤ 140737488355328 := by omega
        clear hT
        have HGO : Hid (∀ W, LkS w x (.slice an L cn) (.slice am M cm) u5 S W → ((W.alloc (.cells #[.int .i64 f] 3)).ownsRow (w.heap.size + 1) 3 1 u5 T (S.map intV)) ∧ w.heap.size + 1 ≤ W.heap.size ∧ (∀ v' w5, w5.ownsRow (w.heap.size + 1) 3 1 v' (T + 1) (S.map intV ++ [.int .i64 f]) → (W.alloc (.cells #[.int .i64 f] 3)).grownBy w5 u5.ownBlock → LkS w x (.slice an L cn) (.slice am M cm) v' (S ++ [f]) w5)) := fun W h =>
          ⟨by have e := (h.next (fbelow_box W (.cells #[.int .i64 f] 3))).row; rw [HT.out] at e; exact e, h.b.box.lt, fun v' w5 h1 h2 => (h.next (fbelow_box W _)).grow h2 (by rw [List.map_append, List.length_append, HT.out]; exact h1)⟩
        go_wp2_with (first
          | (go_at_fn g; refine HC.out.mono ?_; rintro e w1 ⟨rfl, hb1⟩; have HS1 := Lib.hid (HS.out.next hb1); obtain ⟨g1, g2, g3⟩ := HGO.out _ HS1.out; have HG1 := Lib.hid g1; have HG3 := Lib.hid g3; clear hb1 g1 g3)
          | (at_builtin; refine wpList_append_own _ rfl _ _ 23 rfl (w.heap.size + 1) 3 i0 (.int .i64 0) 1 8 Try.underlying23 HI.out hz0 hz1 hz2 rfl (by decide) u5 T (S.map intV) rfl HG1.out ⟨w1.heap.size, 0, none⟩ 1 1 [.int .i64 f] rfl rfl (ecells_one w1 _ _) (by simp [Value.oneCell']) hml hml2 (by simp; omega) ?_; intro v' w5 hown' hgrow _; have HS7 := Lib.hid (HG3.out v' w5 hown' hgrow); clear hown' hgrow))
        go_roundw
        case rel => exact ⟨k + 1, by omega, by go_num, by rw [HST.out]; exact HS7.out⟩
        case measure => simp [intOf]; omega
    · obtain rfl : k = n := by omega
      have hI : Hid (HasInts wr u5 (toldE ls)) := by have := hasInts_of_owns HS.out.row; rw [HTA.out] at this; exact this
      clear hlt hk
      go_wp2
      go_ret
      exact ⟨u5, rfl, hI.out, HS.out.b.below⟩
/-- The fields from one to k. -/
def upTo : Nat → List Int
  | 0 => []
  | k + 1 => upTo k ++ [((k + 1 : Nat) : Int)]
theorem upTo_len : ∀ k, (upTo k).length = k
  | 0 => rfl
  | k + 1 => by rw [upTo, List.length_append, upTo_len k]; rfl
/-- A row of the call's own, and what stands. -/
structure AfS (w : World) (o : Value) (l : List Int) (W : World) : Prop where
  row : W.ownsRow w.heap.size 3 1 o l.length (l.map intV)
  below : Below w.heap.size w W
set_option maxRecDepth 100000 in
set_option maxHeartbeats 4000000 in
theorem Try.allFields_calls (w : World) : Calls Try.prog 28 #[] w fun e w' => ∃ v', e = .returned v' ∧ HasInts w' v' (upTo 13) ∧ Below w.heap.size w w' := by
  obtain ⟨i0, hio, hz0, hz1, hz2⟩ := info_parts Try.xinfo3
  have HI := Lib.hid hio
  have HA0 : Hid (AfS w (.slice none 0 0) (upTo 0) w) := ⟨⟨by simp [upTo], .inl ⟨rfl, rfl⟩⟩, Below.refl _ _⟩
  clear hio
  go_enter Try.func28, Try.ntmps28
  go_wp2
  go_loopw [1, 2] (fun o i wr => ∃ k : Nat, 1 ≤ k ∧ k ≤ 14 ∧ i = .int .i64 (k : Int) ∧ AfS w o (upTo (k - 1)) wr) (fun _ i _ => 14 - (intOf i).toNat)
  case atStart => exact ⟨1, Nat.le_refl _, by decide, rfl, HA0.out⟩
  case round =>
    obtain ⟨k, hk0, hk, rfl, hS⟩ := hrel
    have HS := Lib.hid hS
    clear hS HA0
    by_cases hlt : k ≤ 13
    · have hki : (k : Int) ≤ 13 := by omega
      obtain ⟨j, rfl⟩ : ∃ j, k = j + 1 := ⟨k - 1, by omega⟩
      rw [Nat.add_sub_cancel] at HS
      have HST : Hid (upTo (j + 1) = upTo j ++ [((j + 1 : Nat) : Int)]) := rfl
      have HT := Lib.hid (upTo_len j)
      obtain ⟨K, hK⟩ : ∃ K : Nat, j + 1 = K := ⟨_, rfl⟩
      have HK := Lib.hid hK
      have hml : j + 1 ≤ maxLen := by unfold maxLen; omega
      have hml2 : (j + 1) * 8 ≤ 140737488355328 := by omega
      rw [hK] at hki hlt hk0 hk HST hml hml2 ⊢
      clear hK
      generalize upTo j = S at *
      have HG1 : Hid ((wr.alloc (.cells #[.int .i64 (K : Int)] 3)).ownsRow w.heap.size 3 1 u1 j (S.map intV)) := by have e := fowns_next HS.out.row (fbelow_box wr (.cells #[.int .i64 (K : Int)] 3)); rw [HT.out] at e; exact e
      have hsz := HS.out.below.size
      have HG3 : Hid (∀ v' w5, w5.ownsRow w.heap.size 3 1 v' (j + 1) (S.map intV ++ [.int .i64 (K : Int)]) → (wr.alloc (.cells #[.int .i64 (K : Int)] 3)).grownBy w5 u1.ownBlock → AfS w v' (S ++ [(K : Int)]) w5) := fun v' w5 h1 h2 =>
        ⟨by rw [List.map_append, List.length_append, HT.out]; exact h1, cgrown_below HS.out.below HS.out.below.size HS.out.row h2⟩
      have hml' : j + 1 ≤ maxLen := by have := HK.out; omega
      have hml2' : (j + 1) * 8 ≤ 140737488355328 := by have := HK.out; omega
      go_wp2_with (at_builtin; refine wpList_append_own _ rfl _ _ 23 rfl w.heap.size 3 i0 (.int .i64 0) 1 8 Try.underlying23 HI.out hz0 hz1 hz2 rfl (by decide) u1 j (S.map intV) rfl HG1.out ⟨wr.heap.size, 0, none⟩ 1 1 [.int .i64 (K : Int)] rfl rfl (ecells_one wr _ _) (by simp [Value.oneCell']) hml' hml2' (by simp; omega) ?_; intro v' w5 hown' hgrow _; have HS7 := Lib.hid (HG3.out v' w5 hown' hgrow); clear hown' hgrow)
      go_roundw
      case rel => exact ⟨K + 1, by omega, by omega, by go_num, by rw [Nat.add_sub_cancel, HST.out]; exact HS7.out⟩
      case measure => simp [intOf]; omega
    · obtain rfl : k = 14 := by omega
      have hI : Hid (HasInts wr u1 (upTo 13)) := hasInts_of_owns HS.out.row
      have HB := Lib.hid HS.out.below
      clear hlt hk hk0
      go_wp2
      go_ret
      exact ⟨u1, rfl, hI.out, HB.out⟩
end Go.Proofs
/- What the looks tell is what lacks. No program. -/
namespace Go.Expr
open Go.Canon
theorem lacksL_eq (f : Int) (x : Ins) : lacksL f x = (if lackQ f 1 x = true then [(1 : Int)] else []) ++ ((if lackQ f 2 x = true then [2] else []) ++ ((if lackQ f 3 x = true then [3] else []) ++ ((if lackQ f 4 x = true then [4] else []) ++ ((if lackQ f 5 x = true then [5] else []) ++ ((if lackQ f 6 x = true then [6] else []) ++ ((if lackQ f 7 x = true then [7] else []) ++ ((if lackQ f 8 x = true then [8] else []) ++ ((if lackQ f 9 x = true then [9] else []) ++ ((if lackQ f 10 x = true then [10] else []) ++ ((if lackQ f 11 x = true then [11] else []) ++ ((if lackQ f 12 x = true then [12] else []) ++ (if lackQ f 13 x = true then [13] else [])))))))))))) := by
  unfold lacksL
  simp only [lacksN, List.nil_append, List.append_assoc]
  rfl
theorem toldE_not {f g : Int} {x : Ins} {q : Bool} {l : List (Int × Bool)} (h : lackQ f g x = !q) : toldE ((g, q) :: l) = (if lackQ f g x = true then [g] else []) ++ toldE l := by
  rw [toldE, h]
  cases q <;> rfl
theorem some_all (g : Int) (p : Nd → Bool) (l : List Nd) (h : ∀ d, nodeQ g d = !p d) : someQ g l = !(l.all p) := by
  unfold someQ
  rw [List.all_eq_not_any_not, Bool.not_not]
  congr 1
  funext d
  exact h d
theorem metric_q (m : Int) : (decide (m ≠ 6) && metricB m) = decide (0 ≤ m ∧ m ≤ 5) := by
  unfold metricB
  rw [Bool.eq_iff_iff]
  simp
  omega
theorem q_demand (x : Ins) : someQ 10 x.nodes = !(x.nodes.all fun d => decide (0 ≤ d.demand)) := some_all 10 _ _ fun d => by unfold nodeQ; rw [Bool.eq_iff_iff]; simp
theorem q_window (x : Ins) : someQ 11 x.nodes = !(x.nodes.all fun d => decide (d.ready = 0 ∧ d.due = 0)) := some_all 11 _ _ fun d => by unfold nodeQ; rw [Bool.eq_iff_iff]; simp
theorem q_service (x : Ins) : someQ 12 x.nodes = !(x.nodes.all fun d => decide (d.service = 0)) := some_all 12 _ _ fun d => by unfold nodeQ; rw [Bool.eq_iff_iff]; simp
theorem q_mate (x : Ins) : someQ 13 x.nodes = !(x.nodes.all fun d => decide (d.mate = 0)) := some_all 13 _ _ fun d => by unfold nodeQ; rw [Bool.eq_iff_iff]; simp
theorem told_one (x : Ins) : toldE [(2, decide (x.kind ∈ ([1, 2] : List Int))), (3, decide (x.metric ≠ 6) && metricB x.metric), (6, decide (x.fleet = 0)), (10, x.nodes.all fun d => decide (0 ≤ d.demand)), (11, x.nodes.all fun d => decide (d.ready = 0 ∧ d.due = 0)), (12, x.nodes.all fun d => decide (d.service = 0)), (13, x.nodes.all fun d => decide (d.mate = 0))] = lacksL 1 x := by
  rw [lacksL_eq, metric_q]
  have h1 : lackQ 1 1 x = false := by simp [lackQ]
  have h4 : lackQ 1 4 x = false := by simp [lackQ]
  have h5 : lackQ 1 5 x = false := by simp [lackQ]
  have h7 : lackQ 1 7 x = false := by simp [lackQ]
  have h8 : lackQ 1 8 x = false := by simp [lackQ]
  have h9 : lackQ 1 9 x = false := by simp [lackQ]
  rw [toldE_not (f := 1) (g := 2) (x := x) (by simp [lackQ]), toldE_not (f := 1) (g := 3) (x := x) (by simp [lackQ]; rw [Bool.eq_iff_iff]; simp; try omega), toldE_not (f := 1) (g := 6) (x := x) (by simp [lackQ]),
    toldE_not (f := 1) (g := 10) (x := x) (by rw [← q_demand]; simp [lackQ]), toldE_not (f := 1) (g := 11) (x := x) (by rw [← q_window]; simp [lackQ]), toldE_not (f := 1) (g := 12) (x := x) (by rw [← q_service]; simp [lackQ]), toldE_not (f := 1) (g := 13) (x := x) (by rw [← q_mate]; simp [lackQ]), h1, h4, h5, h7, h8, h9]
  simp [toldE]
theorem told_two (x : Ins) : toldE [(2, decide (x.kind ∈ ([3] : List Int))), (3, decide (x.metric = 6)), (6, decide (1 ≤ x.fleet)), (10, x.nodes.all fun d => decide (0 ≤ d.demand)), (13, x.nodes.all fun d => decide (d.mate = 0))] = lacksL 2 x := by
  rw [lacksL_eq]
  have h1 : lackQ 2 1 x = false := by simp [lackQ]
  have h4 : lackQ 2 4 x = false := by simp [lackQ]
  have h5 : lackQ 2 5 x = false := by simp [lackQ]
  have h7 : lackQ 2 7 x = false := by simp [lackQ]
  have h8 : lackQ 2 8 x = false := by simp [lackQ]
  have h9 : lackQ 2 9 x = false := by simp [lackQ]
  have h11 : lackQ 2 11 x = false := by simp [lackQ]
  have h12 : lackQ 2 12 x = false := by simp [lackQ]
  rw [toldE_not (f := 2) (g := 2) (x := x) (by simp [lackQ]), toldE_not (f := 2) (g := 3) (x := x) (by simp [lackQ]), toldE_not (f := 2) (g := 6) (x := x) (by simp [lackQ]; rw [Bool.eq_iff_iff]; simp; try omega),
    toldE_not (f := 2) (g := 10) (x := x) (by rw [← q_demand]; simp [lackQ]), toldE_not (f := 2) (g := 13) (x := x) (by rw [← q_mate]; simp [lackQ]), h1, h4, h5, h7, h8, h9, h11, h12]
  simp [toldE]
theorem told_three (x : Ins) : toldE [(1, decide (x.name.toList = [108, 105, 108, 105, 109])), (2, decide (x.kind ∈ ([4] : List Int))), (3, decide (x.metric = 6)), (4, decide (x.scale = 0)), (6, decide (1 ≤ x.fleet))] = lacksL 3 x := by
  rw [lacksL_eq]
  have h5 : lackQ 3 5 x = false := by simp [lackQ]
  have h7 : lackQ 3 7 x = false := by simp [lackQ]
  have h8 : lackQ 3 8 x = false := by simp [lackQ]
  have h9 : lackQ 3 9 x = false := by simp [lackQ]
  have h10 : lackQ 3 10 x = false := by simp [lackQ]
  have h11 : lackQ 3 11 x = false := by simp [lackQ]
  have h12 : lackQ 3 12 x = false := by simp [lackQ]
  have h13 : lackQ 3 13 x = false := by simp [lackQ]
  rw [toldE_not (f := 3) (g := 1) (x := x) (by simp [lackQ]), toldE_not (f := 3) (g := 2) (x := x) (by simp [lackQ]), toldE_not (f := 3) (g := 3) (x := x) (by simp [lackQ]), toldE_not (f := 3) (g := 4) (x := x) (by simp [lackQ]), toldE_not (f := 3) (g := 6) (x := x) (by simp [lackQ]; rw [Bool.eq_iff_iff]; simp; try omega), h5, h7, h8, h9, h10, h11, h12, h13]
  simp [toldE]
theorem lacks_upTo {f : Int} (x : Ins) (h : f < 1 ∨ 5 < f) : Go.Proofs.upTo 13 = lacksL f x := by
  have e : ∀ g, lackQ f g x = true := fun g => by unfold lackQ; rw [if_pos h]
  rw [lacksL_eq]
  simp only [e]
  rfl
end Go.Expr
/- The program's spans (has, numbers, signed), and what is asked of a node at its place (the methods of seat). Conditions: none. -/
namespace Go.Canon
/-- Is a number within a span? -/
def has (s : Int × Int) (n : Int) : Bool := decide (s.1 ≤ n) && decide (n ≤ s.2)
/-- What coordinates, demands, times, mates may be. -/
def coordsS (metric : Int) : Int × Int := if metric ≠ 0 then (-100000000, 100000000) else (0, 0)
def timesS (kind : Int) : Int × Int := if kind = 1 ∨ kind = 2 then (0, 0) else (0, 100000000)
def demandsS (kind : Int) (i : Nat) : Int × Int := if kind = 1 ∨ i = 0 then (0, 0) else if kind = 4 then (-100000000, 100000000) else (0, 100000000)
def matesS (kind : Int) (i n : Nat) : Int × Int := if kind ≠ 4 ∨ i = 0 then (0, 0) else (1, (n : Int) - 1)
theorem coord_has (metric : Int) (d : Nd) : (has (coordsS metric) d.x && has (coordsS metric) d.y) = coordB metric d := by
  unfold coordB coordsS has signed
  by_cases h : metric = 0
  · rw [Bool.eq_iff_iff]; simp [h]; omega
  · rw [Bool.eq_iff_iff]; simp [h]
theorem demand_has (kind : Int) (i : Nat) (d : Nd) : has (demandsS kind i) d.demand = demandB kind i d := by
  unfold demandB demandsS has number signed
  by_cases h : kind = 1 ∨ i = 0
  · rw [if_pos h, if_pos h, Bool.eq_iff_iff]; simp; omega
  · rw [if_neg h, if_neg h]
    by_cases h4 : kind = 4
    · rw [if_pos h4, Bool.eq_iff_iff]; simp [h4]; omega
    · rw [if_neg h4, Bool.eq_iff_iff]; simp [h4]
theorem window_has (kind : Int) (d : Nd) : (has (timesS kind) d.ready && has (timesS kind) d.due && decide (d.ready ≤ d.due)) = windowB kind d := by
  unfold windowB timesS has number
  by_cases h : kind = 1 ∨ kind = 2
  · rw [if_pos h, if_pos h, Bool.eq_iff_iff]; simp; omega
  · rw [if_neg h, if_neg h]
theorem service_has (kind : Int) (d : Nd) : has (timesS kind) d.service = serviceB kind d := by
  unfold serviceB timesS has number
  by_cases h : kind = 1 ∨ kind = 2
  · rw [if_pos h, if_pos h, Bool.eq_iff_iff]; simp; omega
  · rw [if_neg h, if_neg h]
end Go.Canon
namespace Go.Proofs
open Go.RowKit Go.Shelf Go.Canon
attribute [local go_sem] Oper.semAt_some

theorem Try.has_calls (s : Int × Int) (n : Int) (w : World) :
    Calls Try.prog 66 #[.agg #[.int .i64 s.1, .int .i64 s.2], .int .i64 n] w fun e w' => e = .returned (.bool (has s n)) ∧ Below w.heap.size w w' := by
  obtain ⟨lo, hi⟩ := s
  dsimp only [has]
  by_cases h1 : lo ≤ n
  · by_cases h2 : n ≤ hi
    · go_enter Try.func66, Try.ntmps66
      go_wp2
      go_ret
      exact ⟨cret_is (by simp; omega), below_box _ _⟩
    · go_enter Try.func66, Try.ntmps66
      go_wp2
      go_ret
      exact ⟨cret_is (by simp; omega), below_box _ _⟩
  · go_enter Try.func66, Try.ntmps66
    go_wp2
    go_ret
    exact ⟨cret_is (by simp; omega), below_box _ _⟩
theorem Try.numbers_calls (w : World) :
    Calls Try.prog 73 #[] w fun e w' => e = .returned (.agg #[.int .i64 0, .int .i64 100000000]) ∧ Below w.heap.size w w' := by
  go_enter Try.func73, Try.ntmps73
  go_wp2
  refine bodyPost_ret (v := .agg #[.int .i64 0, .int .i64 100000000]) (by simp [results, Try.results73, go_sem]) rfl ⟨rfl, ?_⟩
  exact below_box _ _
theorem Try.signed_calls (w : World) :
    Calls Try.prog 84 #[] w fun e w' => e = .returned (.agg #[.int .i64 (-100000000), .int .i64 100000000]) ∧ Below w.heap.size w w' := by
  go_enter Try.func84, Try.ntmps84
  go_wp2
  refine bodyPost_ret (v := .agg #[.int .i64 (-100000000), .int .i64 100000000]) (by simp [results, Try.results84, go_sem]) rfl ⟨rfl, ?_⟩
  exact below_box _ _
end Go.Proofs
