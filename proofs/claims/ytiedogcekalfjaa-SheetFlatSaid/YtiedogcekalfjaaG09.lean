/- The document's own Common of layer 13. Conditions: a million numbers at most, each one of which something is promised. -/
import Derived.Test.YtiedogcekalfjaaG08
import Derived.Test.YtiedogcekalfjaaG03
import Derived.Test.YtiedogcekalfjaaG02
import Derived.Lib.LaidTab
import Derived.Lib.ItoaLen
import Derived.Test.YtiedogcekalfjaaG07
namespace Go.Sheet
open Go.Wds Go.Proofs Go.Fx
/-- The greatest scale. -/
def maxS : List (Int × Nat) → Nat
  | [] => 0
  | p :: l => max p.2 (maxS l)
theorem maxS_append : ∀ (l r : List (Int × Nat)), maxS (l ++ r) = max (maxS l) (maxS r)
  | [], r => by simp [maxS]
  | p :: l, r => by rw [List.cons_append, maxS, maxS, maxS_append l r, Nat.max_assoc]
theorem maxS_le {n : Nat} : ∀ {l : List (Int × Nat)}, (∀ p ∈ l, p.2 ≤ n) → maxS l ≤ n
  | [], _ => Nat.zero_le _
  | p :: l, h => Nat.max_le.2 ⟨h p (by simp), maxS_le fun q hq => h q (by simp [hq])⟩
theorem maxS_take {l : List (Int × Nat)} {k : Nat} {p : Int × Nat} (h : l[k]? = some p) : maxS (l.take (k + 1)) = max (maxS (l.take k)) p.2 := by
  rw [Go.Wds.take_get h, maxS_append]; simp [maxS]
/-- fixed.To at a number. -/
def rdT (S : Nat) (p : Int × Nat) : Int × Int := toR p.1 p.2 (S : Int)
def commonS (S : Nat) (l : List (Int × Nat)) : List Int × Nat × Int :=
  if l.findIdx (fun p => decide ((rdT S p).2 ≠ 0)) < l.length then ([], 0, ((l.findIdx (fun p => decide ((rdT S p).2 ≠ 0)) : Nat) : Int)) else (l.map fun p => (rdT S p).1, S, -1)
/-- sheet.Common. -/
def commonE (l : List (Int × Nat)) : List Int × Nat × Int := commonS (maxS l) l
theorem commonS_bad {S : Nat} {l : List (Int × Nat)} {k : Nat} {p : Int × Nat} (h : l[k]? = some p) (ha : ∀ v ∈ l.take k, (rdT S v).2 = 0) (hb : (rdT S p).2 ≠ 0) : commonS S l = ([], 0, (k : Int)) := by
  have hk : k < l.length := (List.getElem?_eq_some_iff.1 h).1
  have hd : l[k] = p := (List.getElem?_eq_some_iff.1 h).2
  have hf : l.findIdx (fun p => decide ((rdT S p).2 ≠ 0)) = k := by
    rw [List.findIdx_eq hk]
    refine ⟨by rw [hd]; exact decide_eq_true hb, fun j hj => ?_⟩
    have := ha l[j] (by rw [List.mem_take_iff_getElem]; exact ⟨j, by omega, rfl⟩)
    simp [this]
  unfold commonS
  rw [hf, if_pos hk]
theorem commonS_all {S : Nat} {l : List (Int × Nat)} (ha : ∀ v ∈ l, (rdT S v).2 = 0) : commonS S l = (l.map fun p => (rdT S p).1, S, -1) := by
  unfold commonS
  rw [if_neg]
  intro h
  have h1 := List.findIdx_getElem (w := h)
  exact absurd (ha _ (List.getElem_mem h)) (of_decide_eq_true h1)
theorem rdT_ok {S : Nat} {l : List (Int × Nat)} {k : Nat} {w : Int × Nat} (h : l[k]? = some w) (ha : ∀ v ∈ l.take k, (rdT S v).2 = 0) (hb : (rdT S w).2 = 0) : ∀ v ∈ l.take (k + 1), (rdT S v).2 = 0 := by
  intro v hv
  rw [Go.Wds.take_get h, List.mem_append] at hv
  rcases hv with hv | hv
  · exact ha v hv
  · obtain rfl : v = w := by simpa using hv
    exact hb
end Go.Sheet
namespace Go.Proofs
open Go.RowKit Go.Shelf Go.Cur Go.Wds Go.Sheet Go.Fx
attribute [local go_sem] Oper.semAt_some
/-- What stands in the loop. -/
structure CmS (w : World) (o : Value) (l : List Int) (W : World) : Prop where
  below : Below w.heap.size w W
  row : W.ownsRow w.heap.size 3 1 o l.length (l.map intV)
theorem CmS.next {w W W' : World} {o : Value} {l : List Int} (h : CmS w o l W) (hb : Below W.heap.size W W') : CmS w o l W' := ⟨h.below.trans (hb.mono h.below.size), ownsRow_below h.row hb (Nat.le_refl _)⟩
theorem CmS.grow {w W W' : World} {o o' : Value} {l l' : List Int} (h : CmS w o l W) (hg : W.grownBy W' o.ownBlock) (hr : W'.ownsRow w.heap.size 3 1 o' l'.length (l'.map intV)) : CmS w o' l' W' :=
  ⟨below_append_s h.below h.below.size h.row hg, hr⟩
set_option maxRecDepth 100000 in
set_option maxHeartbeats 4000000 in
theorem Try.rCommon_calls (l : List (Int × Nat)) (v : Value) (w : World) (hl : l.length ≤ 1000000) (hm : ∀ p ∈ l, mayB p.1 p.2 = true) (hv : HasNms w v l) :
    Calls Try.prog 24 #[v] w fun e w' => ∃ u, e = .returned (.tuple #[u, .int .i64 ((commonE l).2.1 : Nat), .int .i64 (commonE l).2.2]) ∧ HasInts w' u (commonE l).1 ∧ Below w.heap.size w w' := by
  obtain ⟨i0, hio, hz0, hz1, hz2⟩ := info_parts Try.sinfo3
  have HI := Lib.hid hio
  obtain ⟨av, cv, rfl, hw⟩ := hv.dat
  have HW := Lib.hid hw
  have hm6 : ∀ p ∈ l, p.2 ≤ 6 := fun p hp => by have := (mayB_of (hm p hp)).2.1; omega
  have HM6 : Hid (∀ k, maxS (l.take k) ≤ 6) := fun k => maxS_le fun p hp => hm6 p (List.mem_of_mem_take hp)
  have HMT : Hid (∀ k p, l[k]? = some p → maxS (l.take (k + 1)) = max (maxS (l.take k)) p.2) := fun k p => maxS_take
  have HML : Hid (∀ p ∈ l, p.2 ≤ 6) := hm6
  have HTO : Hid (∀ (S : Nat) (p : Int × Nat) (W : World), p ∈ l → Calls Try.prog 43 #[.agg #[.int .i64 p.1, .int .i64 (p.2 : Nat)], .int .i64 (S : Int)] W fun e w' => e = .returned (.tuple #[.int .i64 (rdT S p).1, .int .i64 (rdT S p).2]) ∧ Below W.heap.size W w') := fun S p W hp => Try.rTo_any p.1 p.2 (S : Int) (hm p hp) W
  have HTA : Hid (l.take l.length = l) := List.take_length
  have HCE : Hid (commonE l = commonS (maxS (l.take l.length)) l) := by unfold Hid; rw [List.take_length]; rfl
  obtain ⟨n, hn⟩ : ∃ n, l.length = n := ⟨_, rfl⟩
  have HN := Lib.hid hn
  rw [hn] at hl HTA HCE ⊢
  clear hw hn hio hm hm6 hv
  generalize commonE l = R at *
  go_enter Try.func24, Try.ntmps24
  go_wp2
  go_loopw [5, 6] (fun x i wr => ∃ k : Nat, k ≤ n ∧ i = .int .i64 (k : Int) ∧ x = .int .i64 (maxS (l.take k) : Nat) ∧ wr = w) (fun _ i _ => n - (intOf i).toNat)
  case atStart => exact ⟨0, Nat.zero_le _, rfl, rfl, rfl⟩
  case round =>
    obtain ⟨k, hk, rfl, rfl, rfl⟩ := hrel
    by_cases hlt : k < n
    · obtain ⟨⟨x, y⟩, hp⟩ : ∃ q, l[k]? = some q := ⟨_, List.getElem?_eq_getElem (by have := HN.out; omega)⟩
      have hne : l ≠ [] := fun e => by rw [e] at hp; simp at hp
      obtain ⟨b, off, rfl, hb, h1⟩ := HW.out.resolve_left hne
      obtain ⟨e0, e1⟩ := h1 k _ hp
      have HT := Lib.hid (HMT.out k _ hp)
      have h6 := HM6.out k
      have h7 := HML.out _ (List.mem_of_getElem? hp)
      simp only at HT h7 e0 e1
      generalize maxS (l.take k) = A at *
      obtain ⟨C, hC⟩ : ∃ C : Nat, max A y = C := ⟨_, rfl⟩
      have hmx : max (A : Int) (y : Int) = (C : Int) := by omega
      rw [hC] at HT
      have hki : (k : Int) < (n : Int) := by omega
      clear hp hne h1 hC
      go_wp2
      go_roundw
      case rel => exact ⟨k + 1, by omega, by go_num, by rw [HT.out], trivial⟩
      case measure => simp [intOf]; omega
    · obtain rfl : k = n := by omega
      clear hlt hk
      have HA0 : Hid (CmS wr (.slice (some ⟨wr.heap.size, 0, none⟩) 0 0) [] (wr.alloc (.cells #[] 3))) := ⟨fbelow_box_s _ _, cowns_empty wr 3 1⟩
      have h6 := HM6.out k
      obtain ⟨S, hS⟩ : ∃ S, maxS (l.take k) = S := ⟨_, rfl⟩
      have HBAD : Hid (∀ j w, l[j]? = some w → (∀ v ∈ l.take j, (rdT S v).2 = 0) → (rdT S w).2 ≠ 0 → R = ([], 0, (j : Int))) := fun j w h1 h2 h3 => by rw [HCE.out, hS]; exact commonS_bad h1 h2 h3
      have HALL : Hid ((∀ v ∈ l.take k, (rdT S v).2 = 0) → R = (l.map fun w => (rdT S w).1, S, -1)) := fun h => by rw [HCE.out, hS]; exact commonS_all (by rw [HTA.out] at h; exact h)
      have HOK : Hid (∀ j w, l[j]? = some w → (∀ v ∈ l.take j, (rdT S v).2 = 0) → (rdT S w).2 = 0 → ∀ v ∈ l.take (j + 1), (rdT S v).2 = 0) := fun j w => rdT_ok
      have HTK : Hid (∀ j w, l[j]? = some w → (l.take (j + 1)).map (fun w => (rdT S w).1) = (l.take j).map (fun w => (rdT S w).1) ++ [(rdT S w).1]) := fun j w h => by rw [Go.Wds.take_get h, List.map_append]; rfl
      rw [hS] at h6 ⊢
      clear hS HCE HM6 HMT HML
      obtain ⟨X, rfl⟩ : ∃ Y, Y = wr := ⟨_, rfl⟩
      go_wp2
      go_loopw [7, 8] (fun o i wr => ∃ j : Nat, j ≤ k ∧ i = .int .i64 (j : Int) ∧ Hid (∀ v ∈ l.take j, (rdT S v).2 = 0) ∧ CmS X o ((l.take j).map fun w => (rdT S w).1) wr) (fun _ i _ => k - (intOf i).toNat)
      case atStart => exact ⟨0, Nat.zero_le _, rfl, Lib.hid (fun v hv => by simp at hv), HA0.out⟩
      case round =>
        obtain ⟨j, hj, rfl, hG, hS⟩ := hrel
        have HS := Lib.hid hS
        have hB := hS.below
        clear HA0 hS
        by_cases hjk : j < k
        · obtain ⟨⟨x, y⟩, hp⟩ : ∃ q, l[j]? = some q := ⟨_, List.getElem?_eq_getElem (by have := HN.out; omega)⟩
          have hne : l ≠ [] := fun e => by rw [e] at hp; simp at hp
          obtain ⟨b, off, rfl, hb, h1⟩ := HW.out.resolve_left hne
          obtain ⟨e0, e1⟩ := h1 j _ hp
          replace e0 := (hB.cell (p := ⟨b, _, none⟩) hb).trans e0
          replace e1 := (hB.cell (p := ⟨b, _, none⟩) hb).trans e1
          have HX := Lib.hid fun W => HTO.out S (x, y) W (List.mem_of_getElem? hp)
          have hji : (j : Int) < (k : Int) := by omega
          have hlen : ((l.take j).map fun w => (rdT S w).1).length = j := by rw [List.length_map, List.length_take]; have := HN.out; omega
          have HLN := Lib.hid hlen
          by_cases hq : (rdT S (x, y)).2 = 0
          · have HO := Lib.hid (HOK.out j _ hp hG.out hq)
            have HT := Lib.hid (HTK.out j _ hp)
            simp only [hq] at HX
            simp only at e0 e1
            generalize (rdT S (x, y)).1 = z at *
            generalize ((l.take j).map fun w => (rdT S w).1) = Z at *
            have hml : j + 1 ≤ maxLen := by unfold maxLen; omega
            have hml2 : (j + 1) * 8 ≤ 140737488355328 := by omega
            have HGO : Hid (∀ W, CmS X u7 Z W → ((W.alloc (.cells #[.int .i64 z] 3)).ownsRow X.heap.size 3 1 u7 j (Z.map intV)) ∧ X.heap.size ≤ W.heap.size ∧ (∀ v' w5, w5.ownsRow X.heap.size 3 1 v' (j + 1) (Z.map intV ++ [.int .i64 z]) → (W.alloc (.cells #[.int .i64 z] 3)).grownBy w5 u7.ownBlock → CmS X v' (Z ++ [z]) w5)) := fun W h =>
              ⟨by have e := (h.next (fbelow_box_s W (.cells #[.int .i64 z] 3))).row; rw [HLN.out] at e; exact e, h.below.size, fun v' w5 h1 h2 => (h.next (fbelow_box_s W _)).grow h2 (by rw [List.map_append, List.length_append, HLN.out]; exact h1)⟩
            clear hp hlen hq hB hne h1
            go_wp2_with (first
              | (go_at_call 43; (with_reducible refine (HX.out _).mono ?_); rintro e w1 ⟨rfl, hb1⟩; have HS1 := Lib.hid (HS.out.next hb1); obtain ⟨g1, g2, g3⟩ := HGO.out _ HS1.out; have HG1 := Lib.hid g1; have HG3 := Lib.hid g3; clear hb1 g1 g3)
              | (at_builtin; refine wpList_append_own _ rfl _ _ 38 rfl X.heap.size 3 i0 (.int .i64 0) 1 8 Try.underlying38 HI.out hz0 hz1 hz2 rfl (by decide) u7 j (Z.map intV) rfl HG1.out ⟨w1.heap.size, 0, none⟩ 1 1 [.int .i64 z] rfl rfl (fun j u h => cells_arr_s _ _ _ j u h) (by simp [Value.oneCell']) hml hml2 (by simp; omega) ?_; intro v' w5 hown' hgrow _; have HS7 := Lib.hid (HG3.out v' w5 hown' hgrow); clear hown' hgrow))
            go_roundw
            case rel => exact ⟨j + 1, by omega, by go_num, HO, by rw [HT.out]; exact HS7.out⟩
            case measure => simp [intOf]; omega
          · have HE := Lib.hid (HBAD.out j _ hp hG.out hq)
            have d : ((rdT S (x, y)).2 != 0) = true := bne_iff_ne.2 hq
            simp only at e0 e1
            generalize (rdT S (x, y)).2 = y2 at *
            generalize (rdT S (x, y)).1 = z at *
            clear hp hlen hq hne h1 hB
            go_wp2_with (go_at_call 43; (with_reducible refine (HX.out _).mono ?_); rintro e w1 ⟨rfl, hb1⟩; have HS1 := Lib.hid (HS.out.next hb1); clear hb1)
            refine bodyPost_ret (v := .tuple #[.slice none 0 0, .int .i64 0, .int .i64 (j : Int)]) (by simp [results, Try.results24, go_sem]) rfl ⟨.slice none 0 0, by rw [HE.out]; rfl, by rw [HE.out]; exact HasInts.nil _, HS1.out.below⟩
        · obtain rfl : j = k := by omega
          have HE := Lib.hid (HALL.out hG.out)
          have hI : Hid (HasInts wr u7 (l.map fun w => (rdT S w).1)) := by
            have := hasInts_of_owns HS.out.row
            rw [HTA.out] at this
            exact this
          clear hjk hj
          go_wp2
          refine bodyPost_ret (v := .tuple #[u7, .int .i64 (S : Int), .int .i64 (-1)]) (by simp [results, Try.results24, go_sem]) rfl ⟨u7, by rw [HE.out], by rw [HE.out]; exact hI.out, hB⟩
end Go.Proofs
/- The law's nums of layer 13, at the same numbers. Conditions: a million numbers at most. -/
namespace Go.Proofs
open Go.RowKit Go.Shelf Go.Cur Go.Wds Go.Sheet Go.Fx
attribute [local go_sem] Oper.semAt_some
set_option maxRecDepth 100000 in
set_option maxHeartbeats 2000000 in
theorem Try.sheetNums_calls (v u : Value) (l : List (Int × Nat)) (w : World) (hl : l.length ≤ 1000000) (hv : HasNms w v l) (hu : HasNms w u l) :
    Calls Try.prog 20 #[v, u] w fun e w' => e = .returned (.bool true) ∧ Below w.heap.size w w' := by
  obtain ⟨av, cv, rfl, hv1⟩ := hv.dat
  obtain ⟨au, cu, rfl, hu1⟩ := hu.dat
  have HV := Lib.hid hv1
  have HU := Lib.hid hu1
  obtain ⟨n, hn⟩ : ∃ n, l.length = n := ⟨_, rfl⟩
  have HN := Lib.hid hn
  rw [hn] at hl ⊢
  have hne : ((n : Int) != (n : Int)) = false := by simp
  clear hv hu hv1 hu1 hn
  go_enter Try.func20, Try.ntmps20
  go_wp2
  go_loopw [5] (fun i wr => ∃ k : Nat, k ≤ n ∧ i = .int .i64 (k : Int) ∧ Below w.heap.size w wr) (fun i _ => n - (intOf i).toNat)
  case atStart => exact ⟨0, Nat.zero_le _, rfl, Below.refl _ _⟩
  case round =>
    obtain ⟨k, hk, rfl, hB⟩ := hrel
    by_cases hlt : k < n
    · obtain ⟨⟨x, y⟩, hp⟩ : ∃ q, l[k]? = some q := ⟨_, List.getElem?_eq_getElem (by have := HN.out; omega)⟩
      have hne2 : l ≠ [] := fun e => by rw [e] at hp; simp at hp
      obtain ⟨b, off, rfl, hb, h1⟩ := HV.out.resolve_left hne2
      obtain ⟨b', off', rfl, hb', h2⟩ := HU.out.resolve_left hne2
      obtain ⟨e0, e1⟩ := h1 k _ hp
      obtain ⟨e2, e3⟩ := h2 k _ hp
      replace e0 := (hB.cell (p := ⟨b, _, none⟩) hb).trans e0
      replace e1 := (hB.cell (p := ⟨b, _, none⟩) hb).trans e1
      replace e2 := (hB.cell (p := ⟨b', _, none⟩) hb').trans e2
      replace e3 := (hB.cell (p := ⟨b', _, none⟩) hb').trans e3
      simp only at e0 e1 e2 e3
      have hki : (k : Int) < (n : Int) := by omega
      have HB := Lib.hid hB
      clear hp hne2 h1 h2 hB
      go_wp2
      go_quiet (fail)
      go_wp2
      go_roundw
      case rel => exact ⟨k + 1, by omega, by go_num, lbelow_drewN HB.out _⟩
      case measure => simp [intOf]; omega
    · obtain rfl : k = n := by omega
      clear hlt hk
      go_wp2
      go_ret
      exact ⟨rfl, hB⟩
end Go.Proofs
/- Layer 13's own helper: what package sheet is to answer (SheetC), and shown. Conditions: SheetC. -/
namespace Go.Sheet
open Go.Wds Go.Proofs Go.Fx
def sX : ByteArray := ⟨#[97, 32, 98, 10, 10, 51, 32, 45, 52, 10, 53, 10]⟩
theorem sx_rows : rowsE sX 1 = [(5, [(5, 6), (7, 9)]), (10, [(10, 11)])] := by decide +kernel
theorem sx_title : titleB sX [(5, 6), (7, 9)] ⟨#[51, 32, 45, 52]⟩ = true := by decide +kernel
theorem sx_ints : intsE sX (5, [(5, 6), (7, 9)]) 2 = ([3, -4], 0, 0) := by decide +kernel
theorem sx_flat : flatE sX [(5, [(5, 6), (7, 9)]), (10, [(10, 11)])] 3 = ([3, -4, 5], 2, 0, 0) := by decide +kernel
theorem sx_common : commonE [(5, 0), (25, 1)] = ([50, 25], 1, -1) := by decide +kernel
theorem sx_may : ∀ p ∈ ([(5, 0), (25, 1)] : List (Int × Nat)), mayB p.1 p.2 = true := by decide +kernel
end Go.Sheet
namespace Go.Proofs
open Go.RowKit Go.Shelf Go.Cur Go.Wds Go.Sheet Go.Fx
attribute [local go_sem] Oper.semAt_some
/-- What package sheet is to answer. -/
structure Try.SheetC : Prop where
  rows : ∀ (s : ByteArray) (k0 : Int) (W : World), s.size ≤ 1000 → Calls Try.prog 9 #[.string s, .int .i64 k0] W fun e w' => ∃ v, e = .returned v ∧ HasRows w' v (rowsE s k0) ∧ Below W.heap.size W w'
  title : ∀ (s t : ByteArray) (k0 : Int) (p : Rw) (u : Value) (W : World), s.size ≤ 1000 → t.size ≤ 1000 → p ∈ rowsE s k0 → HasWords W u p.2 →
    Calls Try.prog 13 #[.string s, .agg #[.int .i64 (p.1 : Nat), u], .string t] W fun e w' => e = .returned (.bool (titleB s p.2 t)) ∧ Below W.heap.size W w'
  ints : ∀ (s : ByteArray) (k0 : Int) (p : Rw) (n : Int) (u : Value) (W : World), s.size ≤ 1000 → p ∈ rowsE s k0 → HasWords W u p.2 →
    Calls Try.prog 15 #[.string s, .agg #[.int .i64 (p.1 : Nat), u], .int .i64 n] W fun e w' => ∃ v, e = .returned (.tuple #[v, .agg #[.int .i64 ((intsE s p n).2.1 : Nat), .int .i64 (intsE s p n).2.2]]) ∧ HasInts w' v (intsE s p n).1 ∧ Below W.heap.size W w'
  nums : ∀ (s : ByteArray) (k0 : Int) (p : Rw) (n : Int) (u : Value) (W : World), s.size ≤ 1000 → p ∈ rowsE s k0 → HasWords W u p.2 →
    Calls Try.prog 17 #[.string s, .agg #[.int .i64 (p.1 : Nat), u], .int .i64 n] W fun e w' => ∃ v, e = .returned (.tuple #[v, .agg #[.int .i64 ((numsE s p n).2.1 : Nat), .int .i64 (numsE s p n).2.2]]) ∧ HasNms w' v (numsE s p n).1 ∧ Below W.heap.size W w'
  flat : ∀ (s : ByteArray) (k0 : Int) (n : Int) (u : Value) (W : World), s.size ≤ 1000 → n ≤ 9223372036854775807 → HasRows W u (rowsE s k0) →
    Calls Try.prog 21 #[.string s, u, .int .i64 n] W fun e w' => ∃ v, e = .returned (.tuple #[v, .int .i64 ((flatE s (rowsE s k0) n.toNat).2.1 : Nat), .agg #[.int .i64 ((flatE s (rowsE s k0) n.toNat).2.2.1 : Nat), .int .i64 (flatE s (rowsE s k0) n.toNat).2.2.2]]) ∧ HasInts w' v (flatE s (rowsE s k0) n.toNat).1 ∧ Below W.heap.size W w'
  common : ∀ (l : List (Int × Nat)) (u : Value) (W : World), l.length ≤ 100 → (∀ p ∈ l, mayB p.1 p.2 = true) → HasNms W u l →
    Calls Try.prog 23 #[u] W fun e w' => ∃ v, e = .returned (.tuple #[v, .int .i64 ((commonE l).2.1 : Nat), .int .i64 (commonE l).2.2]) ∧ HasInts w' v (commonE l).1 ∧ Below W.heap.size W w'
/-- A slice that is not empty, as cells. -/
theorem HasInts.cells {W : World} {v : Value} {l : List Int} (h : HasInts W v l) (hl : 0 < l.length) : ∃ b off c, v = .slice (some ⟨b, off, none⟩) l.length c ∧ IntAt W b off l := by
  rcases h with ⟨rfl, _⟩ | ⟨b, off, c, rfl, _, _, h⟩
  · simp at hl
  · exact ⟨b, off, c, rfl, h⟩
/-- The box of a Diag that tells nothing. -/
def ZbX (B : Nat) (W : World) : Prop := W.heap[B]? = some (.cells #[.int .i64 0, .int .i64 0] 41)
theorem ZbX.next {B : Nat} {W W' : World} (h : ZbX B W) (hb : Below W.heap.size W W') : ZbX B W' := (hb.block _ (Array.getElem?_eq_some_iff.1 h).1).trans h
theorem ZbX.cells {B : Nat} {W : World} (h : ZbX B W) : W.cell? ⟨B, 0, none⟩ = some (.int .i64 0) ∧ W.cell? ⟨B, 1, none⟩ = some (.int .i64 0) := by
  unfold ZbX at h
  refine ⟨?_, ?_⟩
  · unfold World.cell?; rw [h]; rfl
  · unfold World.cell?; rw [h]; rfl
/-- shown's rows. -/
structure SvS (w : World) (g c : Nat) (a1 : Option Addr) (c1 : Nat) (W : World) : Prop where
  below : Below w.heap.size w W
  rows : HasRows W (.slice (some ⟨g, 0, none⟩) 2 c) [(5, [(5, 6), (7, 9)]), (10, [(10, 11)])]
  lt : g < W.heap.size
  e0 : W.cell? ⟨g, 0, none⟩ = some (.int .i64 5)
  e1 : W.cell? ⟨g, 1, none⟩ = some (.slice a1 2 c1)
  words : HasWords W (.slice a1 2 c1) [(5, 6), (7, 9)]
theorem SvS.next {w W W' : World} {g c : Nat} {a1 : Option Addr} {c1 : Nat} (h : SvS w g c a1 c1 W) (hb : Below W.heap.size W W') : SvS w g c a1 c1 W' :=
  ⟨h.below.trans (hb.mono h.below.size), h.rows.later hb, Nat.lt_of_lt_of_le h.lt hb.size, (hb.cell (p := ⟨g, 0, none⟩) h.lt).trans h.e0, (hb.cell (p := ⟨g, 1, none⟩) h.lt).trans h.e1, h.words.later hb⟩
theorem nms_lit (W : World) : HasNms (W.alloc (.cells #[.int .i64 5, .int .i64 0, .int .i64 25, .int .i64 1] 58)) (.slice (some ⟨W.heap.size, 0, none⟩) 2 2) [(5, 0), (25, 1)] := by
  refine .inr ⟨W.heap.size, 0, 2, rfl, Nat.le_refl _, by decide, by simp, fun i p hp => ?_⟩
  rcases i with _ | _ | i
  · obtain rfl : _ = p := Option.some.inj hp
    exact ⟨xcellk2 _ _ _ _, xcellk2 _ _ _ _⟩
  · obtain rfl : _ = p := Option.some.inj hp
    exact ⟨xcellk2 _ _ _ _, xcellk2 _ _ _ _⟩
  · simp at hp
set_option maxRecDepth 100000 in
set_option maxHeartbeats 8000000 in
theorem Try.shown13_calls (H : Try.SheetC) (w : World) : Calls Try.prog 8 #[] w fun e w' => e = .returned (.bool true) ∧ Below w.heap.size w w' := by
  have H9 : Hid (∀ W, Calls Try.prog 9 #[.string ⟨#[97, 32, 98, 10, 10, 51, 32, 45, 52, 10, 53, 10]⟩, .int .i64 1] W fun e w' => ∃ g c a1 c1, e = .returned (.slice (some ⟨g, 0, none⟩) 2 c) ∧ SvS w' g c a1 c1 w' ∧ Below W.heap.size W w') := fun W => (H.rows sX 1 W (by decide)).mono fun e w' ⟨v, e1, h1, h2⟩ => by
    rw [sx_rows] at h1
    have h1' := h1
    rcases h1 with ⟨h0, _⟩ | ⟨g, c, rfl, h3, h4⟩
    · cases h0
    · obtain ⟨x0, u, x1, hw⟩ := h4 0 _ rfl
      have hw' := hw
      obtain ⟨a1, c1, rfl, _⟩ := hw
      exact ⟨g, c, a1, c1, e1, ⟨Below.refl _ _, h1', h3, x0, x1, hw'⟩, h2⟩
  have hmem : ((5, [(5, 6), (7, 9)]) : Rw) ∈ rowsE sX 1 := by rw [sx_rows]; simp
  have H13 : Hid (∀ a1 c1 W, HasWords W (.slice a1 2 c1) [(5, 6), (7, 9)] → Calls Try.prog 13 #[.string ⟨#[97, 32, 98, 10, 10, 51, 32, 45, 52, 10, 53, 10]⟩, .agg #[.int .i64 5, .slice a1 2 c1], .string ⟨#[51, 32, 45, 52]⟩] W fun e w' => e = .returned (.bool true) ∧ Below W.heap.size W w') := fun a1 c1 W hw => (H.title sX ⟨#[51, 32, 45, 52]⟩ 1 _ _ W (by decide) (by decide) hmem hw).mono fun e w' h => ⟨h.1.trans (by rw [sx_title]), h.2⟩
  have H15 : Hid (∀ a1 c1 W, HasWords W (.slice a1 2 c1) [(5, 6), (7, 9)] → Calls Try.prog 15 #[.string ⟨#[97, 32, 98, 10, 10, 51, 32, 45, 52, 10, 53, 10]⟩, .agg #[.int .i64 5, .slice a1 2 c1], .int .i64 2] W fun e w' => ∃ b off c, e = .returned (.tuple #[.slice (some ⟨b, off, none⟩) 2 c, .agg #[.int .i64 0, .int .i64 0]]) ∧ IntAt w' b off [3, -4] ∧ Below W.heap.size W w') := fun a1 c1 W hw => (H.ints sX 1 _ 2 _ W (by decide) hmem hw).mono fun e w' ⟨v, e1, h1, h2⟩ => by
    rw [sx_ints] at e1 h1
    obtain ⟨b, off, c, rfl, h3⟩ := h1.cells (by decide)
    exact ⟨b, off, c, e1, h3, h2⟩
  have H21 : Hid (∀ g c W, HasRows W (.slice (some ⟨g, 0, none⟩) 2 c) [(5, [(5, 6), (7, 9)]), (10, [(10, 11)])] → Calls Try.prog 21 #[.string ⟨#[97, 32, 98, 10, 10, 51, 32, 45, 52, 10, 53, 10]⟩, .slice (some ⟨g, 0, none⟩) 2 c, .int .i64 3] W fun e w' => ∃ b off c, e = .returned (.tuple #[.slice (some ⟨b, off, none⟩) 3 c, .int .i64 2, .agg #[.int .i64 0, .int .i64 0]]) ∧ IntAt w' b off [3, -4, 5] ∧ Below W.heap.size W w') := fun g c W hr => (H.flat sX 1 3 _ W (by decide) (by decide) (by rw [sx_rows]; exact hr)).mono fun e w' ⟨v, e1, h1, h2⟩ => by
    rw [sx_rows, show (3 : Int).toNat = 3 from rfl, sx_flat] at e1 h1
    obtain ⟨b, off, c, rfl, h3⟩ := h1.cells (by decide)
    exact ⟨b, off, c, e1, h3, h2⟩
  have H23 : Hid (∀ W B, B = W.heap.size → Calls Try.prog 23 #[.slice (some ⟨B, 0, none⟩) 2 2] (W.alloc (.cells #[.int .i64 5, .int .i64 0, .int .i64 25, .int .i64 1] 58)) fun e w' => ∃ b off c, e = .returned (.tuple #[.slice (some ⟨b, off, none⟩) 2 c, .int .i64 1, .int .i64 (-1)]) ∧ IntAt w' b off [50, 25] ∧ Below W.heap.size W w') := fun W B hB => (H.common _ _ _ (by decide) sx_may (hB ▸ nms_lit W)).mono fun e w' ⟨v, e1, h1, h2⟩ => by
    rw [sx_common] at e1 h1
    obtain ⟨b, off, c, rfl, h3⟩ := h1.cells (by decide)
    have hb := fbelow_box_s W (.cells #[.int .i64 5, .int .i64 0, .int .i64 25, .int .i64 1] 58)
    exact ⟨b, off, c, e1, h3, hb.trans (h2.mono hb.size)⟩
  clear H hmem
  go_enter Try.func8, Try.ntmps8
  go_wp2_with (first
    | (go_at_call 9; (with_reducible refine (H9.out _).mono ?_); rintro e w1 ⟨g, c, a1, c1, rfl, hs1, hb1⟩; have HB1 := Lib.hid hb1; have HS1 := Lib.hid hs1; have x0 := hs1.e0; have x1 := hs1.e1; have hg := hs1.lt; clear hs1 hb1)
    | (go_at_call 13; (with_reducible refine (H13.out _ _ _ HS1.out.words).mono ?_); rintro e w2 ⟨rfl, hb2⟩; have HS2 := Lib.hid (HS1.out.next hb2); clear x0 x1 hg hb2; have x0 := HS2.out.e0; have x1 := HS2.out.e1; have hg := HS2.out.lt)
    | (go_at_call 15; (with_reducible refine (H15.out _ _ _ HS2.out.words).mono ?_); rintro e w3 ⟨b3, o3, c3, rfl, hi3, hb3⟩; have HS3 := Lib.hid ((HS2.out.next hb3).next (fbelow_box_s w3 (.cells #[.int .i64 0, .int .i64 0] 41))); have HI3 := Lib.hid (hi3.next (fbelow_box_s w3 (.cells #[.int .i64 0, .int .i64 0] 41))); have HZ3 : Hid (ZbX w3.heap.size (w3.alloc (.cells #[.int .i64 0, .int .i64 0] 41))) := World.alloc_heap_new _ _; clear x0 x1 hg hb3 hi3)
    | (go_at_call 21; (with_reducible refine (H21.out _ _ _ HS3.out.rows).mono ?_); rintro e w4 ⟨b4, o4, c4, rfl, hi4, hb4⟩; have hb5 := fbelow_box_s w4 (.cells #[.int .i64 0, .int .i64 0] 41); have HB4 := Lib.hid ((HS3.out.next hb4).next hb5).below; have HI4 := Lib.hid ((HI3.out.next hb4).next hb5); have HJ4 := Lib.hid (hi4.next hb5); have HZ4 := Lib.hid ((HZ3.out.next hb4).next hb5); have HY4 : Hid (ZbX w4.heap.size (w4.alloc (.cells #[.int .i64 0, .int .i64 0] 41))) := World.alloc_heap_new _ _; clear hb4 hb5 hi4)
    | (go_at_call 23; (with_reducible refine (H23.out _ _ (by simp)).mono ?_); rintro e w5 ⟨b5, o5, c5, rfl, hi5, hb5⟩; have HB5 := Lib.hid (HB4.out.trans (hb5.mono HB4.out.size)); obtain ⟨z0, z1⟩ := (HZ4.out.next hb5).cells; obtain ⟨y0, y1⟩ := (HY4.out.next hb5).cells; have i1 := (HI4.out.next hb5).2 1 (-4) rfl; have i2 := (HJ4.out.next hb5).2 2 5 rfl; have i3 : w5.cell? ⟨b5, o5, none⟩ = some (.int .i64 50) := hi5.2 0 50 rfl; have i4 := hi5.2 1 25 rfl; clear hb5 hi5))

  go_ret
  exact ⟨rfl, HB1.out.trans (HB5.out.mono HB1.out.size)⟩
end Go.Proofs
/- Plain facts on numbers in scales: the least form, other scales, how two compare. No program. -/
namespace Go.Fx
open Go.Proofs
/-- 10 to the n. -/
def P (n : Nat) : Int := ((10 ^ n : Nat) : Int)
theorem P_add (a b : Nat) : P (a + b) = P a * P b := by unfold P; rw [Nat.pow_add]; exact Int.natCast_mul _ _
theorem P_pos (n : Nat) : 0 < P n := by unfold P; have : 0 < 10 ^ n := Nat.pow_pos (by omega); omega
theorem P_succ (n : Nat) : P (n + 1) = P n * 10 := P_add n 1
theorem p10_sub {x y : Int} {n : Nat} (h : x - y = (n : Int)) : p10 (x - y) = P n := by rw [h, p10_nat]; rfl
/-- What least does. -/
theorem least_spec (s : Nat) (m : Int) : ∃ d, s = (least s m).2 + d ∧ m = (least s m).1 * P d ∧ ((least s m).2 = 0 ∨ ¬ (10 : Int) ∣ (least s m).1) := by
  induction s generalizing m with
  | zero => exact ⟨0, rfl, by simp [least, P], .inl rfl⟩
  | succ s ih =>
    by_cases h : m.tmod 10 = 0
    · have hd : (10 : Int) ∣ m := Int.dvd_of_tmod_eq_zero h
      rw [least_go s m h]
      obtain ⟨d, h1, h2, h3⟩ := ih (m.tdiv 10)
      refine ⟨d + 1, by omega, ?_, h3⟩
      rw [P_succ, ← Int.mul_assoc, ← h2]
      exact (Int.tdiv_mul_cancel hd).symm
    · rw [least_stop (s + 1) m h]
      exact ⟨0, rfl, by simp [P], .inr (fun hd => h (Int.tmod_eq_zero_of_dvd hd))⟩
theorem cmp_eq {m s k t : Int} (h : m * p10 (6 - s) = k * p10 (6 - t)) : cmpN m s k t = 0 := by
  unfold cmpN Lib.compareInt
  rw [h, if_neg (by omega), if_neg (by omega)]
theorem to_same (m : Int) (s : Nat) (k : Int) : toN m s k = toR m s k := by
  unfold toN toR
  by_cases hk : k < 0 ∨ 6 < k
  · rw [if_pos hk, if_pos hk]
  · rw [if_neg hk, if_neg hk]
    obtain ⟨j, rfl⟩ : ∃ j : Nat, k = (j : Int) := ⟨k.toNat, by omega⟩
    obtain ⟨d, h1, h2, h3⟩ := least_spec s m
    generalize hl : least s m = l at h1 h2 h3 ⊢
    obtain ⟨a, b⟩ := l
    simp only at h1 h2 h3 ⊢
    by_cases hs : (s : Int) ≤ (j : Int)
    · rw [if_pos hs, if_neg (show ¬ (j : Int) < (b : Int) from by omega)]
      have e1 : m * p10 ((j : Int) - (s : Int)) = a * p10 ((j : Int) - (b : Int)) := by
        rw [p10_sub (n := j - s) (by omega), p10_sub (n := d + (j - s)) (by omega), P_add, h2, Int.mul_assoc]
      rw [e1]
    · rw [if_neg hs]
      by_cases hb : (j : Int) < (b : Int)
      · rw [if_pos hb]
        have hnd : ¬ (10 : Int) ∣ a := h3.resolve_left (by omega)
        rw [if_neg]
        intro hz
        apply hnd
        have hd : p10 ((s : Int) - (j : Int)) ∣ m := Int.dvd_of_tmod_eq_zero hz
        obtain ⟨e, he⟩ : ∃ e, b - j = e + 1 := ⟨b - j - 1, by omega⟩
        rw [p10_sub (n := d + (e + 1)) (by omega), P_add, h2, P_succ, Int.mul_comm (P d)] at hd
        have h4 : P e * 10 ∣ a := Int.dvd_of_mul_dvd_mul_right (by have := P_pos d; omega) hd
        exact Int.dvd_trans (Int.dvd_mul_left (P e) 10) h4
      · rw [if_neg hb]
        have e1 : m = a * p10 ((j : Int) - (b : Int)) * p10 ((s : Int) - (j : Int)) := by
          rw [p10_sub (n := j - b) (by omega), p10_sub (n := s - j) (by omega), h2, Int.mul_assoc, ← P_add]
          congr 2; omega
        have hp : p10 ((s : Int) - (j : Int)) ≠ 0 := by have := p10_pos ((s : Int) - (j : Int)); omega
        have h5 : m.tmod (p10 ((s : Int) - (j : Int))) = 0 := by rw [e1]; exact Int.mul_tmod_left _ _
        have h6 : m.tdiv (p10 ((s : Int) - (j : Int))) = a * p10 ((j : Int) - (b : Int)) := by
          conv => lhs; rw [e1]
          exact Int.mul_tdiv_cancel _ hp
        rw [if_pos h5, h6]
/-- A number in another scale is as much as it was. -/
theorem to_much (m : Int) (s : Nat) (hs : s ≤ 6) (k : Int) (h : (toN m s k).2 = 0) : mayB (toN m s k).1 k = true ∧ cmpN (toN m s k).1 k m s = 0 := by
  unfold toN at h ⊢
  by_cases hk : k < 0 ∨ 6 < k
  · rw [if_pos hk] at h; simp at h
  · rw [if_neg hk] at h ⊢
    obtain ⟨j, rfl⟩ : ∃ j : Nat, k = (j : Int) := ⟨k.toNat, by omega⟩
    by_cases hsj : (s : Int) ≤ (j : Int)
    · rw [if_pos hsj] at h ⊢
      by_cases hf : fitB (m * p10 ((j : Int) - (s : Int))) = true
      · rw [if_pos hf]
        have := fitB_of hf
        refine ⟨mayB_mk (by omega) (by omega) (by simp only; omega) (by simp only; omega), cmp_eq ?_⟩
        simp only
        rw [p10_sub (n := j - s) (by omega), p10_sub (n := 6 - j) (by omega), p10_sub (n := 6 - s) (by omega), Int.mul_assoc, ← P_add]
        congr 2; omega
      · rw [if_neg hf] at h; simp at h
    · rw [if_neg hsj] at h ⊢
      by_cases hz : m.tmod (p10 ((s : Int) - (j : Int))) = 0
      · rw [if_pos hz] at h ⊢
        by_cases hf : fitB (m.tdiv (p10 ((s : Int) - (j : Int)))) = true
        · rw [if_pos hf]
          have := fitB_of hf
          refine ⟨mayB_mk (by omega) (by omega) (by simp only; omega) (by simp only; omega), cmp_eq ?_⟩
          simp only
          have e1 : m = m.tdiv (p10 ((s : Int) - (j : Int))) * p10 ((s : Int) - (j : Int)) := (Int.tdiv_mul_cancel (Int.dvd_of_tmod_eq_zero hz)).symm
          generalize m.tdiv (p10 ((s : Int) - (j : Int))) = x at e1 ⊢
          rw [e1, Int.mul_assoc, p10_sub (n := 6 - j) (by omega), p10_sub (n := s - j) (by omega), p10_sub (n := 6 - s) (by omega), ← P_add]
          congr 2; omega
        · rw [if_neg hf] at h; simp at h
      · rw [if_neg hz] at h; simp at h
#print axioms to_same
#print axioms to_much
end Go.Fx
/- Plain facts: the lines of a text, a line feed, and another text; no program. -/
namespace Go.Cur
def shift2 (n : Nat) (p : Nat × Nat) : Nat × Nat := (p.1 + n, p.2 + n)
def shift3 (n : Nat) (p : Nat × Nat × Nat) : Nat × Nat × Nat := (p.1 + n, p.2.1 + n, p.2.2 + n)
theorem spans_shift (n : Nat) : ∀ (r : List UInt8) (b a : Nat), spansFrom r (b + n) (a + n) = (spansFrom r b a).map (shift2 n)
  | [], b, a => rfl
  | c :: r, b, a => by
    unfold spansFrom
    split
    · have := spans_shift n r (b + 1) (b + 1)
      rw [show b + 1 + n = b + n + 1 from by omega] at this
      rw [this]; rfl
    · have := spans_shift n r (b + 1) a
      rw [show b + 1 + n = b + n + 1 from by omega] at this
      exact this
theorem spans_cut : ∀ (l : List UInt8) (base a : Nat), a ≤ base → ∃ P : List (Nat × Nat), P ≠ [] ∧ (∀ r, spansFrom (l ++ 10 :: r) base a = P ++ spansFrom r (base + l.length + 1) (base + l.length + 1)) ∧ ∀ p ∈ P, p.1 ≤ p.2 ∧ p.2 ≤ base + l.length
  | [], base, a, h => ⟨[(a, base)], by simp, fun r => rfl, fun p hp => by
      have e : p = (a, base) := by simpa using hp
      subst e; exact ⟨h, by simp⟩⟩
  | c :: l, base, a, h => by
    by_cases hc : c = 10
    · obtain ⟨P, h0, h1, h2⟩ := spans_cut l (base + 1) (base + 1) (Nat.le_refl _)
      refine ⟨(a, base) :: P, by simp, fun r => ?_, fun p hp => ?_⟩
      · rw [List.cons_append, spansFrom, if_pos hc, h1 r, List.length_cons, show base + 1 + l.length + 1 = base + (l.length + 1) + 1 from by omega]; rfl
      · rcases List.mem_cons.1 hp with rfl | hp
        · exact ⟨h, by simp⟩
        · have := h2 p hp
          simp only [List.length_cons]; omega
    · obtain ⟨P, h0, h1, h2⟩ := spans_cut l (base + 1) a (by omega)
      refine ⟨P, h0, fun r => ?_, fun p hp => ?_⟩
      · rw [List.cons_append, spansFrom, if_neg hc, h1 r, List.length_cons, show base + 1 + l.length + 1 = base + (l.length + 1) + 1 from by omega]
      · have := h2 p hp
        simp only [List.length_cons]; omega
theorem lineAt_low {a r r' : List UInt8} {p : Nat × Nat} (h2 : p.2 ≤ a.length) : lineAt (a ++ 10 :: r) p = lineAt (a ++ 10 :: r') p := by
  unfold lineAt
  simp only [List.length_append, List.length_cons]
  rw [if_neg (show ¬ p.2 = a.length + (r.length + 1) by omega), if_neg (show ¬ p.2 = a.length + (r'.length + 1) by omega)]
  by_cases hp : p.1 < p.2
  · have hi : ∀ q : List UInt8, (a ++ 10 :: q)[p.2 - 1]? = a[p.2 - 1]? := fun q => List.getElem?_append_left (by omega)
    rw [hi, hi]
  · rw [if_neg (fun h => hp h.1), if_neg (fun h => hp h.1)]
theorem lineAt_high (a b : List UInt8) (p : Nat × Nat) : lineAt (a ++ 10 :: b) (shift2 (a.length + 1) p) = shift3 (a.length + 1) (lineAt b p) := by
  unfold lineAt shift2 shift3
  simp only [List.length_append, List.length_cons]
  by_cases he : p.2 = b.length
  · rw [if_pos (by omega), if_pos he]
  · rw [if_neg (by omega), if_neg he]
    by_cases hp : p.1 < p.2
    · have hi : (a ++ 10 :: b)[p.2 + (a.length + 1) - 1]? = b[p.2 - 1]? := by
        rw [List.getElem?_append_right (by omega), show p.2 + (a.length + 1) - 1 - a.length = (p.2 - 1) + 1 from by omega, List.getElem?_cons_succ]
      rw [hi]
      by_cases h13 : b[p.2 - 1]? = some 13
      · rw [if_pos ⟨by omega, h13⟩, if_pos ⟨hp, h13⟩]
        refine Prod.ext rfl (Prod.ext ?_ ?_) <;> simp only <;> omega
      · rw [if_neg (fun h => h13 h.2), if_neg (fun h => h13 h.2)]
        refine Prod.ext rfl (Prod.ext rfl ?_); simp only; omega
    · rw [if_neg (fun h => hp (by have := h.1; omega)), if_neg (fun h => hp h.1)]
      refine Prod.ext rfl (Prod.ext rfl ?_); simp only; omega
theorem takeWhile_map' {α β : Type} {f : α → β} {p : β → Bool} {q : α → Bool} (h : ∀ x, p (f x) = q x) : ∀ l : List α, (l.map f).takeWhile p = (l.takeWhile q).map f
  | [] => rfl
  | x :: l => by
    rw [List.map_cons, List.takeWhile_cons, List.takeWhile_cons, h x]
    split
    · rw [takeWhile_map' h l]; rfl
    · rfl
theorem lines_join (a b : List UInt8) : lines (a ++ 10 :: b) = lines (a ++ [10]) ++ (lines b).map (shift3 (a.length + 1)) ∧ 0 < (lines (a ++ [10])).length := by
  obtain ⟨P, h0, h1, h2⟩ := spans_cut a 0 0 (Nat.le_refl _)
  simp only [Nat.zero_add] at h1 h2
  have e1 : spans (a ++ 10 :: b) = P ++ (spans b).map (shift2 (a.length + 1)) := by
    rw [show spans (a ++ 10 :: b) = spansFrom (a ++ 10 :: b) 0 0 from rfl, h1 b]
    have := spans_shift (a.length + 1) b 0 0
    rw [Nat.zero_add] at this
    rw [this]; rfl
  have e2 : spans (a ++ [10]) = P ++ [(a.length + 1, a.length + 1)] := by
    rw [show spans (a ++ [10]) = spansFrom (a ++ 10 :: []) 0 0 from rfl, h1 []]; rfl
  have l2 : lines (a ++ [10]) = P.map (lineAt (a ++ [10])) := by
    unfold lines
    rw [e2, takeWhile_all (fun p hp => by have := h2 p hp; simp; omega)]
    simp
  constructor
  · rw [l2]
    unfold lines
    rw [e1, takeWhile_all (fun p hp => by have := h2 p hp; simp; omega), List.map_append]
    congr 1
    · exact List.map_congr_left fun p hp => lineAt_low (h2 p hp).2
    · rw [takeWhile_map' (q := fun p => p.1 != b.length) (fun p => by
          rw [Bool.eq_iff_iff, bne_iff_ne, bne_iff_ne]
          simp only [shift2, List.length_append, List.length_cons]; omega), List.map_map, List.map_map]
      exact List.map_congr_left fun p _ => lineAt_high a b p
  · rw [l2, List.length_map]
    exact List.length_pos_iff.2 h0
end Go.Cur
/- Plain facts on words that are put together with blanks between; no program. -/
namespace Go.Wds
/-- The bytes from p up to q. -/
def tx (l : List UInt8) (p q : Nat) : List UInt8 := (l.drop p).take (q - p)
theorem tx_append {l r : List UInt8} {p q : Nat} (hq : q ≤ l.length) : tx (l ++ r) p q = tx l p q := by
  unfold tx
  by_cases h : p ≤ q
  · rw [List.drop_append_of_le_length (by omega), List.take_append_of_le_length (by simp; omega)]
  · rw [show q - p = 0 from by omega, List.take_zero, List.take_zero]
theorem tx_mid (l w r : List UInt8) : tx (l ++ w ++ r) l.length (l.length + w.length) = w := by
  unfold tx
  rw [List.append_assoc, List.drop_left, Nat.add_sub_cancel_left, List.take_left]
/-- A word more at the end of a text that ends in a blank. -/
theorem runs_snoc {l w z : List UInt8} (hl : ∀ x, l[l.length - 1]? = some x → blk x = true) (hw : ∀ x ∈ w, blk x = false) (hw0 : w ≠ []) (hz : ∀ x ∈ z, blk x = true) (hz0 : z ≠ []) :
    ∀ (qs : List (Nat × Nat)) (a : Nat), a ≤ l.length → Runs l l.length a qs → Runs (l ++ w ++ z) (l ++ w ++ z).length a (qs ++ [(l.length, l.length + w.length)])
  | [], a, ha, h => by
    have hwl : 0 < w.length := List.length_pos_iff.2 hw0
    have hzl : 0 < z.length := List.length_pos_iff.2 hz0
    refine ⟨ha, by omega, by simp, fun j x h1 h2 h3 => ?_, fun j x h1 h2 h3 => ?_, fun h1 x h2 => ?_, fun j x h1 h2 h3 => ?_⟩
    · rw [List.append_assoc, List.getElem?_append_left h2] at h3
      exact h j x h1 h2 h3
    · rw [List.append_assoc, List.getElem?_append_right h1, List.getElem?_append_left (by omega)] at h3
      exact hw x (List.mem_of_getElem? h3)
    · rw [List.getElem?_append_right (by simp)] at h2
      exact hz x (List.mem_of_getElem? h2)
    · rw [List.getElem?_append_right (by simp; omega)] at h3
      exact hz x (List.mem_of_getElem? h3)
  | (p, q) :: qs, a, ha, h => by
    obtain ⟨h1, h2, h3, h4, h5, h6, h7⟩ := h
    have hql : q < l.length := by
      rcases Nat.lt_or_ge q l.length with h | h
      · exact h
      · obtain ⟨x, hx⟩ := at_len (l := l) (j := l.length - 1) (by omega)
        have e1 := hl x hx
        rw [h5 (l.length - 1) x (by omega) (by omega) hx] at e1
        cases e1
    refine ⟨h1, h2, by simp; omega, fun j x i1 i2 i3 => ?_, fun j x i1 i2 i3 => ?_, fun _ x i2 => ?_, runs_snoc hl hw hw0 hz hz0 qs q h3 h7⟩
    · rw [List.append_assoc, List.getElem?_append_left (by omega)] at i3
      exact h4 j x i1 i2 i3
    · rw [List.append_assoc, List.getElem?_append_left (by omega)] at i3
      exact h5 j x i1 i2 i3
    · rw [List.append_assoc, List.getElem?_append_left hql] at i2
      exact h6 hql x i2

/-- t is the first i of the words ps of l, put together; in it they are qs. -/
def Built (l : List UInt8) (ps : List (Nat × Nat)) (i : Nat) (t : List UInt8) (qs : List (Nat × Nat)) : Prop :=
  qs.length = i ∧ Runs t t.length 0 qs ∧ (∀ x, t[t.length - 1]? = some x → blk x = true) ∧ 0 < t.length ∧
  ∀ j p q, j < i → ps[j]? = some (p, q) → ∃ p' q', qs[j]? = some (p', q') ∧ p' ≤ q' ∧ q' ≤ t.length ∧ tx t p' q' = tx l p q
theorem built_start (l : List UInt8) (ps : List (Nat × Nat)) : Built l ps 0 [9] [] := by
  refine ⟨rfl, fun j x h1 h2 h3 => ?_, fun x hx => ?_, by simp, fun j p q h => by omega⟩
  · have e : j = 0 := by simp at h2; omega
    subst e
    cases h3; rfl
  · cases hx; rfl
theorem built_step {l : List UInt8} {ps qs : List (Nat × Nat)} {i p q : Nat} {t z : List UInt8} (h : Built l ps i t qs) (hp : ps[i]? = some (p, q)) (hpq : p < q) (hq : q ≤ l.length) (hi : Ink l p q) (hz : ∀ x ∈ z, blk x = true) (hz0 : z ≠ []) :
    Built l ps (i + 1) (t ++ tx l p q ++ z) (qs ++ [(t.length, t.length + (q - p))]) := by
  obtain ⟨h1, h2, h3, h4, h5⟩ := h
  have hwl : (tx l p q).length = q - p := by unfold tx; simp; omega
  have hw : ∀ x ∈ tx l p q, blk x = false := fun x hx => by
    obtain ⟨j, hj⟩ := List.mem_iff_getElem?.1 hx
    have hjl : j < q - p := by have := (List.getElem?_eq_some_iff.1 hj).1; omega
    unfold tx at hj
    rw [List.getElem?_take_of_lt hjl, List.getElem?_drop] at hj
    exact hi _ x (by omega) (by omega) hj
  have hw0 : tx l p q ≠ [] := fun e => by rw [e] at hwl; simp at hwl; omega
  have hr := runs_snoc h3 hw hw0 hz hz0 qs 0 (Nat.zero_le _) h2
  rw [hwl] at hr
  refine ⟨by simp [h1], hr, fun x hx => ?_, by simp; omega, fun j a b hj hab => ?_⟩
  · have hzl : 0 < z.length := List.length_pos_iff.2 hz0
    rw [List.getElem?_append_right (by simp; omega)] at hx
    exact hz x (List.mem_of_getElem? hx)
  · by_cases e : j = i
    · subst e
      rw [hp] at hab
      cases hab
      refine ⟨t.length, t.length + (q - p), by rw [List.getElem?_append_right (by omega), h1, Nat.sub_self]; rfl, by omega, by simp; omega, ?_⟩
      rw [← hwl]
      exact tx_mid _ _ _
    · obtain ⟨p', q', g1, g2, g3, g4⟩ := h5 j a b (by omega) hab
      refine ⟨p', q', by rw [List.getElem?_append_left (by omega)]; exact g1, g2, by simp; omega, ?_⟩
      rw [List.append_assoc, tx_append g3]
      exact g4
theorem built_end {l : List UInt8} {ps qs : List (Nat × Nat)} {t : List UInt8} (h : Built l ps ps.length t qs) : wordsL t 0 t.length = qs :=
  runs_eq (Nat.le_refl _) (runs_of (Nat.zero_le _) (Nat.le_refl _)) h.2.1

/-- Words, one by one: what stands ahead of the word m ends at a. -/
def Ahead (l : List UInt8) (ps : List (Nat × Nat)) (m a : Nat) : Prop := m ≤ ps.length → Runs l l.length a (ps.drop m)
theorem ahead_step {l : List UInt8} {ps : List (Nat × Nat)} {m a p q : Nat} (h : Ahead l ps m a) (hp : ps[m]? = some (p, q)) :
    a ≤ p ∧ p < q ∧ q ≤ l.length ∧ Ink l p q ∧ Ahead l ps (m + 1) q := by
  obtain ⟨hm, e⟩ := List.getElem?_eq_some_iff.1 hp
  have h1 := h (by omega)
  rw [List.drop_eq_getElem_cons hm, e] at h1
  obtain ⟨g1, g2, g3, g4, g5, g6, g7⟩ := h1
  exact ⟨g1, g2, g3, g5, fun _ => g7⟩
/-- Each word has a byte. -/
theorem runs_pos {l : List UInt8} {b : Nat} : ∀ {ps : List (Nat × Nat)} {a : Nat}, Runs l b a ps → ∀ {i p q : Nat}, ps[i]? = some (p, q) → p < q ∧ q ≤ b
  | [], a, h, i, p, q, hp => by simp at hp
  | (p', q') :: ps, a, h, 0, p, q, hp => by
    simp at hp
    obtain ⟨rfl, rfl⟩ := hp
    exact ⟨h.2.1, h.2.2.1⟩
  | (p', q') :: ps, a, h, i + 1, p, q, hp => runs_pos h.2.2.2.2.2.2 (by simpa using hp)
end Go.Wds
/- The text of a number, as a list of bytes. No program. -/
namespace Go.Fx
/-- The text of a divided by 10 to the s. -/
def printA (a s : Nat) : List UInt8 := Lib.decDigits (a / 10 ^ s) ++ (if s = 0 then [] else 46 :: (Lib.decDigits (10 ^ s + a % 10 ^ s)).drop 1)
def printN (m : Int) (s : Nat) : List UInt8 := (if m < 0 then [45] else []) ++ printA m.natAbs s
end Go.Fx
namespace Go.Proofs
open Go.RowKit Go.Fx Go.Sort
theorem div_wrap (a t : Nat) (ha : a ≤ 1000000000000) : wrap64 ((a : Int) / (t : Int)) = ((a / t : Nat) : Int) := by
  have h1 : ((a : Int) / (t : Int)) = ((a / t : Nat) : Int) := (Int.natCast_ediv a t).symm
  rw [h1]
  have h2 : a / t ≤ a := Nat.div_le_self a t
  generalize a / t = q at h2 ⊢
  unfold wrap64
  omega
theorem cat (x y : List UInt8) : (⟨x.toArray⟩ : ByteArray) ++ ⟨y.toArray⟩ = ⟨(x ++ y).toArray⟩ := by
  apply ByteArray.ext
  simp
theorem cat_tail (P D E : List UInt8) (n : Nat) (hn : E.length = n) : (⟨P.toArray⟩ : ByteArray) ++ ⟨D.toArray⟩ ++ ⟨#[46]⟩ ++ (⟨E.toArray⟩ : ByteArray).extract 1 n = ⟨(P ++ (D ++ 46 :: E.drop 1)).toArray⟩ := by
  subst hn
  apply ByteArray.ext
  apply Array.ext'
  simp [List.take_of_length_le]
theorem dec_len (n : Nat) (hn : n ≤ 9223372036854775807) : 1 ≤ (Lib.decDigits n).length ∧ (Lib.decDigits n).length ≤ 21 := by
  have h := Lib.itoa_length_le (n : Int) (by omega) (by omega)
  rw [Lib.itoa_nonneg] at h
  refine ⟨?_, h⟩
  rw [Lib.decDigits_length]
  unfold Lib.nDigits
  split <;> omega
end Go.Proofs
/- Plain facts on the texts of numbers: what is printed is read back. No program. -/
namespace Go.Fx
open Go.Proofs
theorem dec_small {u : Nat} (h : u < 10) : Lib.decDigits u = [UInt8.ofNat (48 + u)] := Lib.decDigits_one h
theorem dec_big {u : Nat} (h : ¬ u < 10) : Lib.decDigits u = Lib.decDigits (u / 10) ++ [UInt8.ofNat (48 + u % 10)] := by
  rw [Lib.decDigits, dif_neg h]
theorem byte_of {d : Nat} (h : d < 10) : (UInt8.ofNat (48 + d)).toNat = 48 + d := by
  rw [UInt8.toNat_ofNat']; omega
theorem dg_byte {d : Nat} (h : d < 10) : dg (UInt8.ofNat (48 + d)) = true := by
  unfold dg; rw [byte_of h]; exact digB_yes (by omega) (by omega)
theorem dec_all (u : Nat) : (Lib.decDigits u).all dg = true := by
  induction u using Nat.strongRecOn with
  | ind u ih =>
    by_cases h : u < 10
    · rw [dec_small h, List.all_cons, dg_byte h]; rfl
    · rw [dec_big h, List.all_append, ih (u / 10) (by omega), List.all_cons, dg_byte (show u % 10 < 10 by omega)]
      rfl
theorem dec_val (u : Nat) : valF 0 (Lib.decDigits u) = (u : Int) := by
  induction u using Nat.strongRecOn with
  | ind u ih =>
    by_cases h : u < 10
    · rw [dec_small h]; simp only [valF, List.foldl_cons, List.foldl_nil]; rw [byte_of h]; omega
    · rw [dec_big h, valF_snoc, ih (u / 10) (by omega), byte_of (show u % 10 < 10 by omega)]; omega
theorem dec_short {u k : Nat} (hk : 1 ≤ k) (h : u < 10 ^ k) : (Lib.decDigits u).length ≤ k := by
  induction k generalizing u with
  | zero => omega
  | succ k ih =>
    by_cases hu : u < 10
    · rw [dec_small hu]; simp
    · rw [dec_big hu]
      have hk1 : 1 ≤ k := by
        rcases Nat.eq_zero_or_pos k with rfl | h'
        · simp at h; omega
        · exact h'
      rw [Nat.pow_succ] at h
      have := ih hk1 (u := u / 10) (by omega)
      simp; omega
theorem dec_ne (u : Nat) : 1 ≤ (Lib.decDigits u).length := by
  by_cases h : u < 10
  · rw [dec_small h]; simp
  · rw [dec_big h]; simp
theorem dec_head (u : Nat) (r : List UInt8) : headB 45 (Lib.decDigits u ++ r) = false := by
  have h1 := dec_ne u
  have h2 := dec_all u
  cases h : Lib.decDigits u with
  | nil => rw [h] at h1; simp at h1
  | cons c x =>
    rw [h] at h2
    simp only [List.all_cons, Bool.and_eq_true] at h2
    simp only [List.cons_append, headB]
    have := dg_bd h2.1
    rw [beq_eq_false_iff_ne]
    intro e; subst e
    simp at this
/-- The places behind the point. -/
def plac (a s : Nat) : List UInt8 := (Lib.decDigits (10 ^ s + a % 10 ^ s)).drop 1
theorem plac_spec (a s : Nat) : (plac a s).length = s ∧ (plac a s).all dg = true ∧ valF 0 (plac a s) = ((a % 10 ^ s : Nat) : Int) := by
  unfold plac
  have hT : 0 < 10 ^ s := Nat.pow_pos (by omega)
  have hr : a % 10 ^ s < 10 ^ s := Nat.mod_lt _ hT
  generalize a % 10 ^ s = r at hr ⊢
  have hl : (Lib.decDigits (10 ^ s + r)).length = s + 1 := by
    rw [Lib.decDigits_length]
    exact Lib.nDigits_unique s _ (by omega) (by rw [Nat.pow_succ]; omega)
  have ha := dec_all (10 ^ s + r)
  have hv := dec_val (10 ^ s + r)
  generalize Lib.decDigits (10 ^ s + r) = X at hl ha hv ⊢
  cases X with
  | nil => simp at hl
  | cons c E =>
    simp only [List.length_cons, Nat.add_right_cancel_iff] at hl
    simp only [List.all_cons, Bool.and_eq_true] at ha
    simp only [List.drop_succ_cons, List.drop_zero]
    refine ⟨hl, ha.2, ?_⟩
    have e1 : valF 0 (c :: E) = valF (10 * 0 + ((c.toNat : Int) - 48)) E := rfl
    rw [e1, valF_split, hl, p10_nat] at hv
    have hb := valF_bd (a := 0) 0 (by omega) (by decide) E (List.all_eq_true.1 ha.2)
    rw [hl, Nat.zero_add] at hb
    have hc := dg_bd ha.1
    generalize valF 0 E = v at hv hb ⊢
    generalize 10 ^ s = T at *
    obtain ⟨q, hq⟩ : ∃ q : Int, q = 10 * 0 + ((c.toNat : Int) - 48) := ⟨_, rfl⟩
    rw [← hq] at hv
    have hq0 : 0 ≤ q := by omega
    have h3 : q * (T : Int) + v = (T : Int) + (r : Int) := by rw [hv]; omega
    have hq1 : q = 1 := by
      rcases Int.lt_trichotomy q 1 with h | h | h
      · have : q = 0 := by omega
        subst this
        omega
      · exact h
      · have : (2 : Int) * (T : Int) ≤ q * (T : Int) := Int.mul_le_mul_of_nonneg_right (by omega) (by omega)
        omega
    subst hq1
    omega
theorem digs_app {D r : List UInt8} (hD : D.all dg = true) (hr : r = [] ∨ ∃ x, r = 46 :: x) : digs (D ++ r) = D := by
  unfold digs
  induction D with
  | nil =>
    rcases hr with rfl | ⟨x, rfl⟩
    · rfl
    · simp [show dg 46 = false from rfl]
  | cons c D ih =>
    simp only [List.all_cons, Bool.and_eq_true] at hD
    simp only [List.cons_append, List.takeWhile_cons, hD.1, if_true, ih hD.2]
theorem sign_text (m : Int) (D r : List UInt8) (hD : headB 45 (D ++ r) = false) :
    sgn ((if m < 0 then [45] else []) ++ (D ++ r)) = (if m < 0 then -1 else 1) ∧ tailIf 45 ((if m < 0 then [45] else []) ++ (D ++ r)) = D ++ r := by
  by_cases h : m < 0
  · simp [h, sgn, tailIf, headB]
  · rw [if_neg h, if_neg h, List.nil_append]
    unfold sgn tailIf
    rw [hD]
    exact ⟨rfl, rfl⟩
theorem sgn_abs (m : Int) : (if m < 0 then (-1 : Int) else 1) * (m.natAbs : Int) = m := by split <;> omega
/-- What a text of digits, and perhaps places, tells. -/
theorem numR_text (m : Int) (D E : List UInt8) (hD : D.all dg = true) (h1 : 1 ≤ D.length) (h12 : D.length ≤ 12) (hE : E.all dg = true) (he1 : 1 ≤ E.length) (he6 : E.length ≤ 6) (hh : headB 45 (D ++ 46 :: E) = false) :
    numR ((if m < 0 then [45] else []) ++ (D ++ 46 :: E)) = some ((if m < 0 then -1 else 1) * (valF 0 D * p10 (E.length : Int) + valF 0 E), E.length, []) := by
  obtain ⟨s1, s2⟩ := sign_text m D (46 :: E) hh
  unfold numR
  rw [s1, s2, digs_app hD (.inr ⟨E, rfl⟩), if_pos ⟨h1, h12⟩, List.drop_left]
  unfold numT
  rw [if_pos (show headB 46 (46 :: E) = true from rfl), show ((46 : UInt8) :: E).tail = E from rfl, digs_full hE, if_pos ⟨he1, he6⟩, List.drop_length, valF_split (valF 0 D) E]
theorem numR_whole (m : Int) (D : List UInt8) (hD : D.all dg = true) (h1 : 1 ≤ D.length) (h12 : D.length ≤ 12) (hh : headB 45 D = false) :
    numR ((if m < 0 then [45] else []) ++ D) = some ((if m < 0 then -1 else 1) * valF 0 D, 0, []) ∧ numI ((if m < 0 then [45] else []) ++ D) = some ((if m < 0 then -1 else 1) * valF 0 D, 0, []) := by
  obtain ⟨s1, s2⟩ := sign_text m D [] (by rw [List.append_nil]; exact hh)
  rw [List.append_nil] at s1 s2
  have hd : digs D = D := digs_full hD
  unfold numR numI
  rw [s1, s2, hd, if_pos (c := 1 ≤ D.length ∧ D.length ≤ 12) ⟨h1, h12⟩, if_pos (c := 1 ≤ D.length ∧ D.length ≤ 12) ⟨h1, h12⟩, List.drop_length]
  unfold numT
  rw [if_neg (show ¬ headB 46 [] = true from by simp [headB])]
  exact ⟨rfl, rfl⟩
theorem num_long (m : Int) (D r : List UInt8) (hD : D.all dg = true) (h12 : 12 < D.length) (hr : r = [] ∨ ∃ x, r = 46 :: x) (hh : headB 45 (D ++ r) = false) :
    numR ((if m < 0 then [45] else []) ++ (D ++ r)) = none ∧ numI ((if m < 0 then [45] else []) ++ (D ++ r)) = none := by
  obtain ⟨s1, s2⟩ := sign_text m D r hh
  unfold numR numI
  rw [s1, s2, digs_app hD hr, if_neg (c := 1 ≤ D.length ∧ D.length ≤ 12) (by omega), if_neg (c := 1 ≤ D.length ∧ D.length ≤ 12) (by omega)]
  exact ⟨rfl, rfl⟩
#print axioms plac_spec
#print axioms numR_text
end Go.Fx
