/- The document's own Flat of layer 13. Conditions: a text of at most a million bytes; as many words, and rows, at most. -/
import Derived.Test.YtiedogcekalfjaaG07
import Derived.Test.YtiedogcekalfjaaG02
namespace Go.Proofs
open Go.RowKit Go.Shelf Go.Cur Go.Wds Go.Sheet Go.Fx
attribute [local go_sem] Oper.semAt_some
/-- The box of what is wrong, and the numbers so far. -/
structure FlS (w : World) (o : Value) (l : List Int) (W : World) : Prop where
  below : Below w.heap.size w W
  res : W.heap[w.heap.size]? = some (.cells #[.int .i64 0, .int .i64 0] 41)
  row : W.ownsRow (w.heap.size + 1) 3 1 o l.length (l.map intV)
theorem FlS.lt {w W : World} {o : Value} {l : List Int} (h : FlS w o l W) : w.heap.size + 1 ≤ W.heap.size := (Array.getElem?_eq_some_iff.1 h.res).1
theorem FlS.next {w W W' : World} {o : Value} {l : List Int} (h : FlS w o l W) (hb : Below W.heap.size W W') : FlS w o l W' :=
  ⟨h.below.trans (hb.mono h.below.size), (hb.block _ h.lt).trans h.res, ownsRow_below h.row hb (Nat.le_refl _)⟩
theorem FlS.grow {w W W' : World} {o o' : Value} {l l' : List Int} (h : FlS w o l W) (hg : W.grownBy W' o.ownBlock) (hr : W'.ownsRow (w.heap.size + 1) 3 1 o' l'.length (l'.map intV)) : FlS w o' l' W' := by
  have hlt := h.lt
  exact ⟨h.below.grown hg (by omega) (fun j e => by have := (h.row.lt j e).1; omega), (hg.block _ (by omega) (fun e => by have := (h.row.lt _ e.symm).1; omega)).trans h.res, hr⟩
theorem FlS.cells {w W : World} {o : Value} {l : List Int} (h : FlS w o l W) : W.cell? ⟨w.heap.size, 0, none⟩ = some (.int .i64 0) ∧ W.cell? ⟨w.heap.size, 1, none⟩ = some (.int .i64 0) ∧ W.frozen? ⟨w.heap.size, 0, none⟩ = false ∧ W.frozen? ⟨w.heap.size, 1, none⟩ = false := by
  refine ⟨?_, ?_, ?_, ?_⟩
  · unfold World.cell?; rw [h.res]; rfl
  · unfold World.cell?; rw [h.res]; rfl
  · unfold World.frozen?; rw [h.res]; rfl
  · unfold World.frozen?; rw [h.res]; rfl
theorem flS_start (w : World) : FlS w (.slice (some ⟨w.heap.size + 1, 0, none⟩) 0 0) [] ((w.alloc (.cells #[.int .i64 0, .int .i64 0] 41)).alloc (.cells #[] 3)) := by
  have e := cowns_empty (w.alloc (.cells #[.int .i64 0, .int .i64 0] 41)) 3 1
  rw [World.size_alloc] at e
  have h1 := fbelow_box_s (w.alloc (.cells #[.int .i64 0, .int .i64 0] 41)) (.cells #[] 3)
  exact ⟨(fbelow_box_s w _).trans (h1.mono (by simp)), (h1.block _ (by simp)).trans (World.alloc_heap_new _ _), e⟩
/-- What is left where nothing is asked for. -/
theorem FlS.ints {w W : World} {o : Value} {l : List Int} (h : FlS w o l W) : HasInts ((W.setCell ⟨w.heap.size, 0, none⟩ (.int .i64 0)).setCell ⟨w.heap.size, 1, none⟩ (.int .i64 0)) o l :=
  hasInts_of_owns (own_set_s (own_set_s h.row (a := ⟨w.heap.size, 0, none⟩) (Nat.lt_succ_self _) (.int .i64 0)) (a := ⟨w.heap.size, 1, none⟩) (Nat.lt_succ_self _) (.int .i64 0))
set_option maxRecDepth 100000 in
set_option maxHeartbeats 4000000 in
theorem Try.rFlat_none (s : ByteArray) (l : List Rw) (n : Int) (v : Value) (w : World) (hl : l.length ≤ 1000000) (hn : n ≤ 0) (hv : HasRows w v l) :
    Calls Try.prog 22 #[.string s, v, .int .i64 n] w fun e w' => ∃ u, e = .returned (.tuple #[u, .int .i64 0, .agg #[.int .i64 0, .int .i64 0]]) ∧ HasInts w' u [] ∧ Below w.heap.size w w' := by
  obtain ⟨av, cv, rfl, _⟩ := hv.dat
  have HS0 := Lib.hid (flS_start w)
  generalize l.length = L at *
  clear hv
  have h1 : ¬ (0 : Int) < n := by omega
  go_enter Try.func22, Try.ntmps22
  go_wp2
  go_loopw [9, 10] (fun o i wr => i = .int .i64 0 ∧ o = .slice (some ⟨w.heap.size + 1, 0, none⟩) 0 0 ∧ FlS w o [] wr) (fun _ _ _ => 0)
  case atStart => exact ⟨rfl, rfl, HS0.out⟩
  case round =>
    obtain ⟨rfl, rfl, hS⟩ := hrel
    obtain ⟨r0, r1, f0, f1⟩ := hS.cells
    have HI := Lib.hid hS.ints
    have HB := Lib.hid hS.below
    clear hS HS0
    by_cases hL : (0 : Int) < (L : Int)
    · go_wp2
      refine bodyPost_ret (v := .tuple #[.slice (some ⟨w.heap.size + 1, 0, none⟩) 0 0, .int .i64 0, .agg #[.int .i64 0, .int .i64 0]]) (by simp [results, Try.results22, go_sem, r0, r1]) rfl ⟨_, rfl, HI.out, ?_⟩
      exact (HB.out.setCell (Nat.le_refl _) _).setCell (Nat.le_refl _) _
    · go_wp2
      refine bodyPost_ret (v := .tuple #[.slice (some ⟨w.heap.size + 1, 0, none⟩) 0 0, .int .i64 0, .agg #[.int .i64 0, .int .i64 0]]) (by simp [results, Try.results22, go_sem, r0, r1]) rfl ⟨_, rfl, HI.out, ?_⟩
      exact (HB.out.setCell (Nat.le_refl _) _).setCell (Nat.le_refl _) _
theorem xcellk2 (W : World) (cs : Array Value) (t : TypeId) (j : Nat) : (W.alloc (.cells cs t)).cell? ⟨W.heap.size, j, none⟩ = cs[j]? := by
  unfold World.cell?
  rw [World.alloc_heap_new]
  rfl
set_option maxRecDepth 100000 in
set_option maxHeartbeats 8000000 in
theorem Try.rFlat_some (s : ByteArray) (l : List Rw) (N : Nat) (v : Value) (w : World) (hs : s.size ≤ 1000000) (hl : l.length ≤ 1000000) (ht : totW l ≤ 1000000) (hN : 0 < N) (hv : HasRows w v l) :
    Calls Try.prog 22 #[.string s, v, .int .i64 (N : Int)] w fun e w' => ∃ u, e = .returned (.tuple #[u, .int .i64 ((flatE s l N).2.1 : Nat), .agg #[.int .i64 ((flatE s l N).2.2.1 : Nat), .int .i64 (flatE s l N).2.2.2]]) ∧ HasInts w' u (flatE s l N).1 ∧ Below w.heap.size w w' := by
  obtain ⟨i0, hio, hz0, hz1, hz2⟩ := info_parts Try.sinfo3
  have HI := Lib.hid hio
  obtain ⟨av, cv, rfl, hv1⟩ := hv.dat
  have HV := Lib.hid hv1
  have HTX : Hid (∀ (a b : Nat) (W : World), Calls Try.prog 34 #[.string s, .agg #[.int .i64 (a : Nat), .int .i64 (b : Nat)]] W fun e w' => e = .returned (.string (wordT s (a, b))) ∧ Below W.heap.size W w') := fun a b W => Try.rText_calls s (a : Nat) (b : Nat) W
  have HRI := Lib.hid fun w W => Try.rIntW s w hs W
  have HTT : Hid (∀ k p, l[k]? = some p → totW (l.take (k + 1)) = totW (l.take k) + p.2.length) := fun k p => totW_take
  have HTL : Hid (∀ k, totW (l.take k) ≤ 1000000) := fun k => Nat.le_trans (totW_le l k) ht
  obtain ⟨R, hR⟩ : ∃ R, flatE s l N = R := ⟨_, rfl⟩
  have HR0 : Hid (R = combF [] 0 (flatE s (l.drop 0) (N - 0))) := by unfold Hid; rw [← hR]; exact flat_start s l N
  rw [hR]
  obtain ⟨L, hL⟩ : ∃ n, l.length = n := ⟨_, rfl⟩
  have HLL := Lib.hid hL
  rw [hL] at hl ⊢
  have HS0 := Lib.hid (flS_start w)
  clear hv hv1 hio hR hL ht
  have hNi : (0 : Int) < (N : Int) := by omega
  go_enter Try.func22, Try.ntmps22
  go_wp2
  go_loopw [9, 10] (fun o i wr => ∃ (k : Nat) (O : List Int), k ≤ L ∧ i = .int .i64 (k : Int) ∧ O.length < N ∧ O.length = totW (l.take k) ∧ Hid (R = combF O k (flatE s (l.drop k) (N - O.length))) ∧ FlS w o O wr) (fun _ i _ => L - (intOf i).toNat)
  case atStart => exact ⟨0, [], Nat.zero_le _, rfl, hN, rfl, HR0, HS0.out⟩
  case round =>
    obtain ⟨k, O, hk, rfl, hON, hOT, hR, hS⟩ := hrel
    have HS := Lib.hid hS
    have hrow := hS.row
    have hB := hS.below
    obtain ⟨r0, r1, f0, f1⟩ := hS.cells
    obtain ⟨ao, co, rfl⟩ := owns_slice_s hrow
    have h6 := HTL.out k
    obtain ⟨c, hc⟩ : ∃ c, O.length = c := ⟨_, rfl⟩
    have HC := Lib.hid hc
    rw [hc] at hON hOT hR ⊢
    have hcN : (c : Int) < (N : Int) := by omega
    have hc6 : c ≤ 1000000 := by omega
    have HOT := Lib.hid hOT
    clear HS0 HR0 hS hrow hc hOT h6
    by_cases hlt : k < L
    · obtain ⟨⟨f, P⟩, hp⟩ : ∃ q, l[k]? = some q := ⟨_, List.getElem?_eq_getElem (by have := HLL.out; omega)⟩
      have hne : l ≠ [] := fun e => by rw [e] at hp; simp at hp
      obtain ⟨g, rfl, hg, h1⟩ := HV.out.resolve_left hne
      obtain ⟨x0', u1, x1', w1⟩ := h1 k _ hp
      obtain ⟨a1, c1, rfl, hw, _⟩ := w1
      have HW := Lib.hid hw
      have hT1 := HTT.out k _ hp
      have h7 := HTL.out (k + 1)
      have hdrop : l.drop k = (f, P) :: l.drop (k + 1) := by
        obtain ⟨hk', e⟩ := List.getElem?_eq_some_iff.1 hp
        rw [← e]; exact List.drop_eq_getElem_cons hk'
      rw [hdrop] at hR
      obtain ⟨Q, hQ⟩ : ∃ Q, l.drop (k + 1) = Q := ⟨_, rfl⟩
      rw [hQ] at hR
      have HQ := Lib.hid hQ
      have hki : (k : Int) < (L : Int) := by omega
      simp only at hT1 HW x1'
      obtain ⟨pn, hpn⟩ : ∃ n, P.length = n := ⟨_, rfl⟩
      have HPN := Lib.hid hpn
      have HPA : Hid (P.take pn = P) := by unfold Hid; rw [← hpn, List.take_length]
      rw [hpn] at hT1 x1'
      have HKC : Hid (∀ V, Below w.heap.size w V → V.cell? ⟨g, k * 2 + 1, none⟩ = some (.slice a1 pn c1)) := fun V hV => (hV.cell (p := ⟨g, _, none⟩) hg).trans x1'
      obtain ⟨m, hm⟩ : ∃ m, N - c = m := ⟨_, rfl⟩
      rw [hm] at hR
      have hm0 : 0 < m := by omega
      have HBAD : Hid (∀ j w, j < m → P[j]? = some w → (∀ v ∈ P.take j, (rdI s v).2 = 0) → (rdI s w).2 ≠ 0 → R = ([], 0, w.1, (rdI s w).2)) := fun j w h1 h2 h3 h4 => by rw [hR.out]; exact flat_bad h1 h2 h3 h4
      have HLONG : Hid (∀ w, P[m]? = some w → (∀ v ∈ P.take m, (rdI s v).2 = 0) → R = ([], 0, w.1, 3)) := fun w h2 h3 => by rw [hR.out]; exact flat_long hm0 h2 h3
      have HROW : Hid (pn ≤ m → (∀ v ∈ P.take pn, (rdI s v).2 = 0) → R = combF (O ++ P.map fun w => (rdI s w).1) (k + 1) (flatE s Q (m - pn))) := fun h2 h3 => by
        rw [hR.out, ← hpn]
        exact flat_row hm0 (by show P.length ≤ m; omega) (by rw [HPA.out] at h3; exact h3)
      have HOK : Hid (∀ k w, P[k]? = some w → (∀ v ∈ P.take k, (rdI s v).2 = 0) → (rdI s w).2 = 0 → ∀ v ∈ P.take (k + 1), (rdI s v).2 = 0) := fun k w => rdI_ok
      have HTK : Hid (∀ k w, P[k]? = some w → O ++ (P.take (k + 1)).map (fun w => (rdI s w).1) = (O ++ (P.take k).map (fun w => (rdI s w).1)) ++ [(rdI s w).1]) := fun k w h => by rw [Go.Wds.take_get h, List.map_append, List.append_assoc]; rfl
      have HI0 : Hid (FlS w (.slice ao c co) (O ++ (P.take 0).map fun w => (rdI s w).1) wr) := by
        have := HS.out
        rw [HC.out] at this
        unfold Hid
        simpa using this
      clear hp hne h1 x0' x1' hw hdrop hQ hpn hR
      obtain ⟨X, rfl⟩ : ∃ Y, Y = wr := ⟨_, rfl⟩
      have HT1 := Lib.hid hT1
      have hcp : c + pn ≤ 1000000 := by have := HOT.out; omega
      have HM := Lib.hid hm
      have hkb : k ≤ 1000000 := by omega
      clear hT1 h7 hm
      go_wp2
      go_loopw [9, 11] (fun o i wr => ∃ j : Nat, j ≤ pn ∧ j ≤ m ∧ i = .int .i64 (j : Int) ∧ Hid (∀ v ∈ P.take j, (rdI s v).2 = 0) ∧ FlS w o (O ++ (P.take j).map fun w => (rdI s w).1) wr) (fun _ i _ => pn - (intOf i).toNat)
      case atStart => exact ⟨0, Nat.zero_le _, Nat.zero_le _, rfl, Lib.hid (fun v hv => by simp at hv), HI0.out⟩
      case round =>
        obtain ⟨j, hj, hjm, rfl, hG, hS⟩ := hrel
        have HS2 := Lib.hid hS
        have hrow := hS.row
        have hB2 := hS.below
        obtain ⟨q0, q1, p0, p1⟩ := hS.cells
        have hlen : (O ++ (P.take j).map fun w => (rdI s w).1).length = c + j := by rw [List.length_append, List.length_map, List.length_take, HC.out, HPN.out]; omega
        rw [hlen] at hrow
        obtain ⟨a9, c9, rfl⟩ := owns_slice_s hrow
        have z1 := HKC.out _ hB2
        have HLN := Lib.hid hlen
        have hcj : c + j ≤ 1000000 := by omega
        clear hS HI0 hrow hlen
        by_cases hjp : j < pn
        · obtain ⟨⟨a, b⟩, hp⟩ : ∃ q, P[j]? = some q := ⟨_, List.getElem?_eq_getElem (by have := HPN.out; omega)⟩
          obtain ⟨gw, rfl, hgw, e0, e1⟩ := HW.out j a b hp
          replace e0 := (hB2.cell (p := ⟨gw, _, none⟩) hgw).trans e0
          replace e1 := (hB2.cell (p := ⟨gw, _, none⟩) hgw).trans e1
          have hji : (j : Int) < (pn : Int) := by omega
          have HX := Lib.hid fun W => HTX.out a b W
          have HR := Lib.hid fun W => HRI.out (a, b) W
          have N2 := HS2.out.next (fbelow_box_s wr (.cells #[.int .i64 (a : Nat), .int .i64 (b : Nat)] 79))
          have HN2 := Lib.hid N2
          by_cases hjm2 : j < m
          · have hd1 : ¬ (N : Int) ≤ ((c + j : Nat) : Int) := by have := HM.out; omega
            have hp0 := hp
            clear hp N2 hjm
            by_cases hq : (rdI s (a, b)).2 = 0
            · have HO := Lib.hid (HOK.out j _ hp0 hG.out hq)
              have HT := Lib.hid (HTK.out j _ hp0)
              simp only [hq] at HR
              generalize (rdI s (a, b)).1 = x at *
              generalize wordT s (a, b) = T at *
              generalize (O ++ (P.take j).map fun w => (rdI s w).1) = Z at *
              have HCJ : Hid (c + j + 1 = c + (j + 1)) := by unfold Hid; omega
              obtain ⟨q, hqq⟩ : ∃ q, c + j = q := ⟨_, rfl⟩
              rw [hqq] at HLN hcj hd1 HCJ ⊢
              have hml : q + 1 ≤ maxLen := by unfold maxLen; omega
              have hml2 : (q + 1) * 8 ≤ 140737488355328 := by omega
              have HGO : Hid (∀ W, FlS w (.slice a9 q c9) Z W → ((W.alloc (.cells #[.int .i64 x] 3)).ownsRow (w.heap.size + 1) 3 1 (.slice a9 q c9) q (Z.map intV)) ∧ w.heap.size + 1 ≤ W.heap.size ∧ (∀ v' w5, w5.ownsRow (w.heap.size + 1) 3 1 v' (q + 1) (Z.map intV ++ [.int .i64 x]) → (W.alloc (.cells #[.int .i64 x] 3)).grownBy w5 (Value.slice a9 q c9).ownBlock → FlS w v' (Z ++ [x]) w5)) := fun W h =>
                ⟨by have e := (h.next (fbelow_box_s W (.cells #[.int .i64 x] 3))).row; rw [HLN.out] at e; exact e, h.lt, fun v' w5 h1 h2 => (h.next (fbelow_box_s W _)).grow h2 (by rw [List.map_append, List.length_append, HLN.out]; exact h1)⟩
              rw [hqq] at HN2
              clear hp0 hq hB2 hqq
              go_wp2_with (first
                | (go_at_call 34; (with_reducible refine (HX.out _).mono ?_); rintro e w1 ⟨rfl, hb1⟩; have HS3 := Lib.hid (HN2.out.next hb1); clear hb1)
                | (go_at_call 37; (with_reducible refine (HR.out _).mono ?_); rintro e w2 ⟨rfl, rfl⟩; obtain ⟨g1, g2, g3⟩ := HGO.out _ HS3.out; have HG1 := Lib.hid g1; have HG3 := Lib.hid g3; clear g1 g3)
                | (at_builtin; refine wpList_append_own _ rfl _ _ 38 rfl (w.heap.size + 1) 3 i0 (.int .i64 0) 1 8 Try.underlying38 HI.out hz0 hz1 hz2 rfl (by decide) (.slice a9 q c9) q (Z.map intV) rfl HG1.out ⟨w1.heap.size, 0, none⟩ 1 1 [.int .i64 x] rfl rfl (fun j u h => cells_arr_s _ _ _ j u h) (by simp [Value.oneCell']) hml hml2 (by simp; omega) ?_; intro v' w5 hown' hgrow _; have HS7 := Lib.hid (HG3.out v' w5 hown' hgrow); clear hown' hgrow))
              go_roundw
              case rel => exact ⟨j + 1, by omega, by omega, by go_num, HO, by rw [HT.out]; exact HS7.out⟩
              case measure => simp [intOf]; omega
            · have HE := Lib.hid (HBAD.out j _ hjm2 hp0 hG.out hq)
              have d : ((rdI s (a, b)).2 != 0) = true := bne_iff_ne.2 hq
              have hk0 : Hid (∀ W', Below (wr.heap.size + 1) (wr.alloc (.cells #[.int .i64 (a : Nat), .int .i64 (b : Nat)] 79)) W' → W'.cell? ⟨wr.heap.size, 0, none⟩ = some (.int .i64 (a : Nat))) := fun W' h => (h.cell (p := ⟨wr.heap.size, 0, none⟩) (Nat.lt_succ_self _)).trans (xcellk2 _ _ _ _)
              generalize (rdI s (a, b)).2 = y at *
              generalize (rdI s (a, b)).1 = x at *
              generalize wordT s (a, b) = T at *
              generalize c + j = q at *
              clear hp0 hq hB2
              go_wp2_with (first
                | (go_at_call 34; (with_reducible refine (HX.out _).mono ?_); rintro e w1 ⟨rfl, hb1⟩; have k0 := hk0.out w1 (by rw [World.size_alloc] at hb1; exact hb1); have HS3 := Lib.hid (HN2.out.next hb1); clear hb1)
                | (go_at_call 37; (with_reducible refine (HR.out _).mono ?_); rintro e w2 ⟨rfl, rfl⟩; clear q0 q1 p0 p1; obtain ⟨q0, q1, p0, p1⟩ := HS3.out.cells; have hsz := HS3.out.lt))
              have HB3 := Lib.hid HS3.out.below
              go_region
              go_wp2
              refine bodyPost_ret (v := .tuple #[.slice none 0 0, .int .i64 0, .agg #[.int .i64 (a : Nat), .int .i64 y]]) (by simp [results, Try.results22, go_sem, q0, q1]) rfl ⟨.slice none 0 0, by rw [HE.out]; rfl, by rw [HE.out]; exact HasInts.nil _, ?_⟩
              exact below_drew_s ((HB3.out.setCell (Nat.le_refl _) _).setCell (Nat.le_refl _) _)
          · obtain rfl : j = m := by omega
            have HE := Lib.hid (HLONG.out _ hp hG.out)
            have hd1 : (N : Int) ≤ ((c + j : Nat) : Int) := by have := HM.out; omega
            clear hp N2 hjm hG
            generalize c + j = q at *
            go_upto_region 9 with (fail)
            obtain ⟨V, hV⟩ : ∃ V, V = wr.alloc (.cells #[.int .i64 (a : Nat), .int .i64 (b : Nat)] 79) := ⟨_, rfl⟩
            have k0 : V.cell? ⟨wr.heap.size, 0, none⟩ = some (.int .i64 (a : Nat)) := by rw [hV]; exact xcellk2 _ _ _ _
            rw [← hV] at HN2 ⊢
            clear hV
            obtain ⟨q0, q1, p0, p1⟩ := HN2.out.cells
            have hsz := HN2.out.lt
            have HB3 := Lib.hid HN2.out.below
            go_wp2
            go_region
            go_wp2
            refine bodyPost_ret (v := .tuple #[.slice none 0 0, .int .i64 0, .agg #[.int .i64 (a : Nat), .int .i64 3]]) (by simp [results, Try.results22, go_sem, q0, q1]) rfl ⟨.slice none 0 0, by rw [HE.out]; rfl, by rw [HE.out]; exact HasInts.nil _, ?_⟩
            exact below_drew_s ((HB3.out.setCell (Nat.le_refl _) _).setCell (Nat.le_refl _) _)
        · obtain rfl : j = pn := by omega
          have HE := Lib.hid (HROW.out hjm hG.out)
          have HSF : Hid (FlS w (.slice a9 (c + j) c9) (O ++ P.map fun w => (rdI s w).1) wr) := by have := HS2.out; rw [HPA.out] at this; exact this
          have HLF : Hid ((O ++ P.map fun w => (rdI s w).1).length = c + j) := by have := HLN.out; rw [HPA.out] at this; exact this
          have HTQ : Hid (c + j = totW (l.take (k + 1))) := by have := HT1.out; have := HOT.out; unfold Hid; omega
          generalize (O ++ P.map fun w => (rdI s w).1) = Z at *
          by_cases hjm2 : j < m
          · have hd1 : ¬ (N : Int) ≤ ((c + j : Nat) : Int) := by have := HM.out; omega
            have hmj : N - (c + j) = m - j := by have := HM.out; omega
            have HMJ := Lib.hid hmj
            clear hmj
            generalize c + j = q at *
            go_wp2
            go_roundw
            case rel => exact ⟨k + 1, Z, by omega, by go_num, by rw [HLF.out]; omega, by rw [HLF.out]; exact HTQ.out, by unfold Hid; rw [HLF.out, HMJ.out, HQ.out]; exact HE.out, HSF.out⟩
            case measure => simp [intOf]; omega
          · obtain rfl : j = m := by omega
            have hd1 : (N : Int) ≤ ((c + j : Nat) : Int) := by have := HM.out; omega
            have HE2 : Hid (R = (Z, k + 1, 0, 0)) := by have := HE.out; rw [Nat.sub_self, flat_stop] at this; exact this
            have HI9 := Lib.hid HSF.out.ints
            have HB3 := Lib.hid hB2
            generalize c + j = q at *
            go_wp2
            refine bodyPost_ret (v := .tuple #[.slice a9 q c9, .int .i64 ((k : Int) + 1), .agg #[.int .i64 0, .int .i64 0]]) (by simp [results, Try.results22, go_sem, q0, q1]) rfl ⟨.slice a9 q c9, by rw [HE2.out]; rfl, by rw [HE2.out]; exact HI9.out, ?_⟩
            exact (HB3.out.setCell (Nat.le_refl _) _).setCell (Nat.le_refl _) _
    · obtain rfl : k = L := by omega
      have HE : Hid (R = ([], 0, s.size, 4)) := by
        have := hR.out
        rw [← HLL.out, List.drop_length] at this
        exact this.trans (flat_end (by omega))
      have HB3 := Lib.hid hB
      have hsi : (s.size : Int) ≤ 1000000 := by omega
      clear hlt hk hR
      go_wp2
      refine bodyPost_ret (v := .tuple #[.slice none 0 0, .int .i64 0, .agg #[.int .i64 (s.size : Nat), .int .i64 4]]) (by simp [results, Try.results22, go_sem, r0, r1]) rfl ⟨.slice none 0 0, by rw [HE.out]; rfl, by rw [HE.out]; exact HasInts.nil _, ?_⟩
      exact (HB3.out.setCell (Nat.le_refl _) _).setCell (Nat.le_refl _) _
end Go.Proofs
/- The document's own Nums of layer 13. Conditions: a text of at most a million bytes, as many words at most. -/
namespace Go.Proofs
open Go.RowKit Go.Shelf Go.Cur Go.Wds Go.Sheet Go.Fx
attribute [local go_sem] Oper.semAt_some
theorem Try.sinfo59 : (Try.prog.info? 59).map (fun i => (i.zero, i.size, i.bytes)) = some (some (.agg #[.int .i64 0, .int .i64 0]), 2, 16) := by kernel_rfl
/-- The two cells of a number. -/
def nmC (p : Int × Nat) : List Value := [.int .i64 p.1, .int .i64 (p.2 : Nat)]
theorem nmC_len (p : Int × Nat) : (nmC p).length = 2 := rfl
/-- A slice that reads as these numbers. -/
def HasNms (W : World) (v : Value) (l : List (Int × Nat)) : Prop := (l = [] ∧ ∃ ao cap, v = .slice ao 0 cap) ∨ ∃ b off cap, v = .slice (some ⟨b, off, none⟩) l.length cap ∧ l.length ≤ cap ∧ cap ≤ maxLen ∧ b < W.heap.size ∧ ∀ (i : Nat) (p : Int × Nat), l[i]? = some p → W.cell? ⟨b, off + i * 2, none⟩ = some (.int .i64 p.1) ∧ W.cell? ⟨b, off + i * 2 + 1, none⟩ = some (.int .i64 (p.2 : Nat))
theorem HasNms.later {W W' : World} {v : Value} {l : List (Int × Nat)} (h : HasNms W v l) (hb : Below W.heap.size W W') : HasNms W' v l := by
  rcases h with h | ⟨b, off, cap, h1, h2, h3, h4, h5⟩
  · exact .inl h
  · exact .inr ⟨b, off, cap, h1, h2, h3, Nat.lt_of_lt_of_le h4 hb.size, fun i p hi => ⟨(hb.cell (p := ⟨b, _, none⟩) h4).trans (h5 i p hi).1, (hb.cell (p := ⟨b, _, none⟩) h4).trans (h5 i p hi).2⟩⟩
theorem HasNms.nil (W : World) : HasNms W (.slice none 0 0) [] := .inl ⟨rfl, none, 0, rfl⟩
theorem HasNms.dat {W : World} {v : Value} {l : List (Int × Nat)} (h : HasNms W v l) : ∃ ao cap, v = .slice ao l.length cap ∧ (l = [] ∨ ∃ b off, ao = some ⟨b, off, none⟩ ∧ b < W.heap.size ∧ ∀ (i : Nat) (p : Int × Nat), l[i]? = some p → W.cell? ⟨b, off + i * 2, none⟩ = some (.int .i64 p.1) ∧ W.cell? ⟨b, off + i * 2 + 1, none⟩ = some (.int .i64 (p.2 : Nat))) := by
  rcases h with ⟨rfl, ao, cap, rfl⟩ | ⟨b, off, cap, rfl, _, _, h4, h5⟩
  · exact ⟨ao, cap, rfl, .inl rfl⟩
  · exact ⟨_, cap, rfl, .inr ⟨b, off, rfl, h4, h5⟩⟩
theorem nms_of_owns {W : World} {base : Nat} {e : TypeId} {v : Value} {l : List (Int × Nat)} (h : W.ownsRow base e 2 v l.length (l.flatMap nmC)) : HasNms W v l := by
  rcases owns_flat nmC_len h with ⟨rfl, rfl⟩ | ⟨g, cap, rfl, h2, h3, h4, h5⟩
  · exact HasNms.nil W
  · refine .inr ⟨g, 0, cap, rfl, h2, h3, h4, fun i p hp => ⟨h5 i p 0 _ hp rfl, h5 i p 1 _ hp rfl⟩⟩
/-- The document's own Read at a word. -/
theorem Try.rReadW (s : ByteArray) (w : Nat × Nat) (hs : s.size ≤ 1000000) (W : World) :
    Calls Try.prog 40 #[.string (wordT s w)] W fun e w' => e = .returned (.tuple #[.agg #[.int .i64 (rdR s w).1.1, .int .i64 ((rdR s w).1.2 : Nat)], .int .i64 (rdR s w).2]) ∧ Below W.heap.size W w' := by
  have h := read_same (wordT s w).data.toList
  have := Try.rRead_any (wordT s w) (Nat.le_trans (wordT_size s w) hs) W
  rw [← h] at this
  exact this
theorem rdR_ok {s : ByteArray} {l : List (Nat × Nat)} {k : Nat} {w : Nat × Nat} (h : l[k]? = some w) (ha : ∀ v ∈ l.take k, (rdR s v).2 = 0) (hb : (rdR s w).2 = 0) : ∀ v ∈ l.take (k + 1), (rdR s v).2 = 0 := by
  intro v hv
  rw [Go.Wds.take_get h, List.mem_append] at hv
  rcases hv with hv | hv
  · exact ha v hv
  · obtain rfl : v = w := by simpa using hv
    exact hb
/-- What stands in the loop over the words. -/
structure NwS (w : World) (f : Nat) (v o : Value) (l : List (Int × Nat)) (W : World) : Prop where
  b : IvS w f v W
  row : W.ownsRow (w.heap.size + 2) 59 2 o l.length (l.flatMap nmC)
theorem NwS.next {w W W' : World} {f : Nat} {v o : Value} {l : List (Int × Nat)} (h : NwS w f v o l W) (hb : Below W.heap.size W W') : NwS w f v o l W' := ⟨h.b.next hb, ownsRow_below h.row hb (Nat.le_refl _)⟩
theorem NwS.grow {w W W' : World} {f : Nat} {v o o' : Value} {l l' : List (Int × Nat)} (h : NwS w f v o l W) (hg : W.grownBy W' o.ownBlock) (hr : W'.ownsRow (w.heap.size + 2) 59 2 o' l'.length (l'.flatMap nmC)) : NwS w f v o' l' W' := by
  have hlt := h.b.lt
  have hne : ∀ k, k < w.heap.size + 2 → W'.heap[k]? = W.heap[k]? := fun k hk => hg.block k (by omega) (fun e => by have := (h.row.lt k e.symm).1; omega)
  exact ⟨⟨h.b.below.grown hg (by omega) (fun j e => by have := (h.row.lt j e).1; omega), (hne _ (by omega)).trans h.b.box, (hne _ (by omega)).trans h.b.res⟩, hr⟩
theorem nwS_start {w W : World} {f : Nat} {v : Value} (h : IvS w f v W) : NwS w f v (.slice (some ⟨W.heap.size, 0, none⟩) 0 0) [] (W.alloc (.cells #[] 59)) :=
  ⟨h.next (fbelow_box_s _ _), ownsRow_base (cowns_empty W 59 2) (by have := h.lt; omega)⟩
set_option maxRecDepth 100000 in
set_option maxHeartbeats 4000000 in
theorem Try.rNums_calls (s : ByteArray) (f : Nat) (ws : List (Nat × Nat)) (sk : Int) (v : Value) (w : World) (hs : s.size ≤ 1000000) (hl : ws.length ≤ 1000000) (hv : HasWords w v ws) :
    Calls Try.prog 18 #[.string s, .agg #[.int .i64 (f : Nat), v], .int .i64 sk] w fun e w' => ∃ u, e = .returned (.tuple #[u, .agg #[.int .i64 ((takeW (rdR s) (ws.drop sk.toNat)).2.1 : Nat), .int .i64 (takeW (rdR s) (ws.drop sk.toNat)).2.2]]) ∧ HasNms w' u (takeW (rdR s) (ws.drop sk.toNat)).1 ∧ Below w.heap.size w w' := by
  obtain ⟨i0, hio, hz0, hz1, hz2⟩ := info_parts Try.sinfo59
  have HI := Lib.hid hio
  obtain ⟨av, cv, rfl, hw, _⟩ := hv
  have HW := Lib.hid hw
  have HTX : Hid (∀ (a b : Nat) (W : World), Calls Try.prog 34 #[.string s, .agg #[.int .i64 (a : Nat), .int .i64 (b : Nat)]] W fun e w' => e = .returned (.string (wordT s (a, b))) ∧ Below W.heap.size W w') := fun a b W => Try.rText_calls s (a : Nat) (b : Nat) W
  have HRI := Lib.hid fun w W => Try.rReadW s w hs W
  obtain ⟨m0, hm0⟩ : ∃ m, sk.toNat = m := ⟨_, rfl⟩
  rw [hm0]
  have hmax : max sk 0 = (m0 : Int) := by omega
  obtain ⟨ds, hds⟩ : ∃ ds, ws.drop m0 = ds := ⟨_, rfl⟩
  rw [hds]
  have HDL : Hid (∀ j, ds[j]? = ws[m0 + j]?) := fun j => by rw [← hds, List.getElem?_drop]
  have HDN : Hid (ds.length = ws.length - m0) := by unfold Hid; rw [← hds, List.length_drop]
  have HBAD : Hid (∀ k w, ds[k]? = some w → (∀ v ∈ ds.take k, (rdR s v).2 = 0) → (rdR s w).2 ≠ 0 → takeW (rdR s) ds = ([], w.1, (rdR s w).2)) := fun k w => takeW_bad
  have HALL : Hid ((∀ v ∈ ds.take ds.length, (rdR s v).2 = 0) → takeW (rdR s) ds = (ds.map fun w => (rdR s w).1, 0, 0)) := fun h => takeW_all (by rw [List.take_length] at h; exact h)
  have HOK : Hid (∀ k w, ds[k]? = some w → (∀ v ∈ ds.take k, (rdR s v).2 = 0) → (rdR s w).2 = 0 → ∀ v ∈ ds.take (k + 1), (rdR s v).2 = 0) := fun k w => rdR_ok
  have HTK : Hid (∀ k w, ds[k]? = some w → (ds.take (k + 1)).map (fun w => (rdR s w).1) = (ds.take k).map (fun w => (rdR s w).1) ++ [(rdR s w).1]) := fun k w h => by rw [Go.Wds.take_get h, List.map_append]; rfl
  have HTA : Hid (ds.take ds.length = ds) := List.take_length
  obtain ⟨n, hn⟩ : ∃ n, ws.length = n := ⟨_, rfl⟩
  obtain ⟨dn, hdn⟩ : ∃ n, ds.length = n := ⟨_, rfl⟩
  have HN := Lib.hid hn
  rw [hn] at hl HDN ⊢
  rw [hdn] at HALL HTA HDN
  have HDD := Lib.hid hdn
  have HS0 := Lib.hid (IvS.new w f (.slice av n cv))
  have HA0 := Lib.hid (nwS_start HS0.out)
  simp only [World.size_alloc] at HA0
  clear hw hn hio hds hdn hm0
  generalize takeW (rdR s) ds = R at *
  go_enter Try.func18, Try.ntmps18
  go_wp2
  go_loopw [8, 9] (fun o i wr => ∃ k : Nat, k ≤ dn ∧ i = .int .i64 ((m0 + k : Nat) : Int) ∧ Hid (∀ v ∈ ds.take k, (rdR s v).2 = 0) ∧ NwS w f (.slice av n cv) o ((ds.take k).map fun w => (rdR s w).1) wr) (fun _ i _ => m0 + dn - (intOf i).toNat)
  case atStart => exact ⟨0, Nat.zero_le _, rfl, Lib.hid (fun v hv => by simp at hv), HA0.out⟩
  case round =>
    obtain ⟨k, hk, rfl, hG, hS⟩ := hrel
    have HS := Lib.hid hS
    obtain ⟨x0, x1, r0, r1, f0, f1⟩ := hS.b.cells
    have hB := hS.b.below
    clear HS0 HA0 hS hmax
    have hdn := HDN.out
    by_cases hlt : k < dn
    · obtain ⟨⟨a, b⟩, hp⟩ : ∃ q, ds[k]? = some q := by
        rw [HDL.out]
        exact ⟨_, List.getElem?_eq_getElem (by have := HN.out; omega)⟩
      have hp2 := hp
      rw [HDL.out] at hp2
      obtain ⟨g, rfl, hg, e0, e1⟩ := HW.out (m0 + k) a b hp2
      have HE0 : Hid (∀ V, Below w.heap.size w V → V.cell? ⟨g, (m0 + k) * 2, none⟩ = some (.int .i64 (a : Nat)) ∧ V.cell? ⟨g, (m0 + k) * 2 + 1, none⟩ = some (.int .i64 (b : Nat))) := fun V hV => ⟨(hV.cell (p := ⟨g, _, none⟩) hg).trans e0, (hV.cell (p := ⟨g, _, none⟩) hg).trans e1⟩
      obtain ⟨mk, hmk⟩ : ∃ m, m0 + k = m := ⟨_, rfl⟩
      have HMK := Lib.hid hmk
      have hmn : mk < n := by omega
      rw [hmk] at HE0 ⊢
      replace e0 := (HE0.out _ hB).1
      replace e1 := (HE0.out _ hB).2
      have hki : (mk : Int) < (n : Int) := by omega
      have HX := Lib.hid fun W => HTX.out a b W
      have HR := Lib.hid fun W => HRI.out (a, b) W
      have hlen : (((ds.take k).map fun w => (rdR s w).1)).length = k := by rw [List.length_map, List.length_take]; have := HDD.out; omega
      have HLN := Lib.hid hlen
      by_cases hq : (rdR s (a, b)).2 = 0
      · have HO := Lib.hid (HOK.out k _ hp hG.out hq)
        have HT := Lib.hid (HTK.out k _ hp)
        simp only [hq] at HR
        generalize (rdR s (a, b)).1 = x at *
        obtain ⟨x, y⟩ := x
        simp only at HR
        generalize wordT s (a, b) = T at *
        generalize ((ds.take k).map fun w => (rdR s w).1) = S at *
        have hml : k + 1 ≤ maxLen := by unfold maxLen; omega
        have hml2 : (k + 1) * 16 ≤ 140737488355328 := by omega
        have HGO : Hid (∀ W, NwS w f (.slice (some ⟨g, 0, none⟩) n cv) u8 S W → ((W.alloc (.cells #[.int .i64 x, .int .i64 (y : Nat)] 59)).ownsRow (w.heap.size + 2) 59 2 u8 k (S.flatMap nmC)) ∧ w.heap.size + 2 ≤ W.heap.size ∧ (∀ v' w5, w5.ownsRow (w.heap.size + 2) 59 2 v' (k + 1) (S.flatMap nmC ++ [.int .i64 x, .int .i64 (y : Nat)]) → (W.alloc (.cells #[.int .i64 x, .int .i64 (y : Nat)] 59)).grownBy w5 u8.ownBlock → NwS w f (.slice (some ⟨g, 0, none⟩) n cv) v' (S ++ [(x, y)]) w5)) := fun W h =>
          ⟨by have e := (h.next (fbelow_box_s W (.cells #[.int .i64 x, .int .i64 (y : Nat)] 59))).row; rw [HLN.out] at e; exact e, h.b.lt, fun v' w5 h1 h2 => (h.next (fbelow_box_s W _)).grow h2 (by rw [List.flatMap_append, List.length_append, HLN.out]; simpa [nmC] using h1)⟩
        clear hp hp2 hlen hq hB hmk hdn
        go_wp2_with (first
          | (go_at_call 34; (with_reducible refine (HX.out _).mono ?_); rintro e w1 ⟨rfl, hb1⟩; have HS1 := Lib.hid (HS.out.next hb1); clear hb1)
          | (go_at_call 40; (with_reducible refine (HR.out _).mono ?_); rintro e w2 ⟨rfl, hb2⟩; have HS2 := Lib.hid ((HS1.out.next hb2).next (fbelow_box_s w2 (.cells #[.int .i64 x, .int .i64 (y : Nat)] 59))); obtain ⟨g1, g2, g3⟩ := HGO.out _ HS2.out; rw [World.size_alloc] at g2; have HG1 := Lib.hid g1; have HG3 := Lib.hid g3; clear g1 g3 hb2)
          | (at_builtin; refine wpList_append_own _ rfl _ _ 48 rfl (w.heap.size + 2) 59 i0 (.agg #[.int .i64 0, .int .i64 0]) 2 16 Try.underlying48 HI.out hz0 hz1 hz2 rfl (by decide) u8 k (S.flatMap nmC) rfl HG1.out ⟨w2.heap.size + 1, 0, none⟩ 1 1 [.int .i64 x, .int .i64 (y : Nat)] rfl rfl (fun j u h => by have := cells_arr_s (w2.alloc (.cells #[.int .i64 x, .int .i64 (y : Nat)] 59)) #[.int .i64 x, .int .i64 (y : Nat)] 59 j u h; rw [World.size_alloc] at this; exact this) (by simp [Value.oneCell']) hml hml2 (by simp; omega) ?_; intro v' w5 hown' hgrow _; have HS7 := Lib.hid (HG3.out v' w5 hown' hgrow); clear hown' hgrow))
        go_roundw
        case rel => exact ⟨k + 1, by omega, by have := HMK.out; go_num, HO, by rw [HT.out]; exact HS7.out⟩
        case measure => simp [intOf]; have := HMK.out; omega
      · have HE := Lib.hid (HBAD.out k _ hp hG.out hq)
        have d : ((rdR s (a, b)).2 != 0) = true := bne_iff_ne.2 hq
        generalize (rdR s (a, b)).2 = z at *
        generalize (rdR s (a, b)).1 = x at *
        obtain ⟨x, y⟩ := x
        simp only at HR
        generalize wordT s (a, b) = T at *
        clear hp hp2 hlen hq hB hmk hdn
        go_wp2_with (first
          | (go_at_call 34; (with_reducible refine (HX.out _).mono ?_); rintro e w1 ⟨rfl, hb1⟩; have HS1 := Lib.hid (HS.out.next hb1); clear hb1)
          | (go_at_call 40; (with_reducible refine (HR.out _).mono ?_); rintro e w2 ⟨rfl, hb2⟩; have HS2 := Lib.hid ((HS1.out.next hb2).next (fbelow_box_s w2 (.cells #[.int .i64 x, .int .i64 (y : Nat)] 59))); clear x0 x1 r0 r1 f0 f1 e0 e1 hb2))
        obtain ⟨V, hV⟩ : ∃ V, V = w2.alloc (.cells #[.int .i64 x, .int .i64 (y : Nat)] 59) := ⟨_, rfl⟩
        rw [← hV] at HS2 ⊢
        clear hV
        obtain ⟨x0, x1, r0, r1, f0, f1⟩ := HS2.out.b.cells
        have e0 := (HE0.out _ HS2.out.b.below).1
        have hsz := HS2.out.b.lt
        have HB2 := Lib.hid HS2.out.b.below
        go_region
        go_wp2
        refine bodyPost_ret (v := .tuple #[.slice none 0 0, .agg #[.int .i64 (a : Nat), .int .i64 z]]) (by simp [results, Try.results18, go_sem, r0, r1]) rfl ⟨.slice none 0 0, by rw [HE.out], by rw [HE.out]; exact HasNms.nil _, ?_⟩
        exact below_drew_s ((HB2.out.setCell (Nat.le_succ _) _).setCell (Nat.le_succ _) _)
    · obtain rfl : k = dn := by omega
      have HE := Lib.hid (HALL.out hG.out)
      have hI : Hid (HasNms ((wr.setCell ⟨w.heap.size + 1, 0, none⟩ (.int .i64 0)).setCell ⟨w.heap.size + 1, 1, none⟩ (.int .i64 0)) u8 (ds.map fun w => (rdR s w).1)) := by
        have := nms_of_owns (own_set_s (own_set_s HS.out.row (a := ⟨w.heap.size + 1, 0, none⟩) (Nat.lt_succ_self _) (.int .i64 0)) (a := ⟨w.heap.size + 1, 1, none⟩) (Nat.lt_succ_self _) (.int .i64 0))
        rw [HTA.out] at this
        exact this
      have hsz := HS.out.b.lt
      have HB2 := Lib.hid hB
      have hge : ¬ ((m0 + k : Nat) : Int) < (n : Int) := by omega
      obtain ⟨mk, hmk⟩ : ∃ m, m0 + k = m := ⟨_, rfl⟩
      rw [hmk] at hge ⊢
      clear hlt hk hdn hmk
      go_wp2
      refine bodyPost_ret (v := .tuple #[u8, .agg #[.int .i64 0, .int .i64 0]]) (by simp [results, Try.results18, go_sem, r0, r1]) rfl ⟨u8, by rw [HE.out]; rfl, by rw [HE.out]; exact hI.out, ?_⟩
      exact (HB2.out.setCell (Nat.le_succ _) _).setCell (Nat.le_succ _) _
end Go.Proofs
/- The document's To. Conditions: a number of which something is promised. -/
namespace Go.Fx
/-- The document's To: the number and the error. -/
def toR (m : Int) (s : Nat) (k : Int) : Int × Int :=
  if k < 0 ∨ 6 < k then (0, 1) else
  if k < ((least s m).2 : Int) then (0, 21) else
  if fitB ((least s m).1 * p10 (k - (least s m).2)) = true then ((least s m).1 * p10 (k - (least s m).2), 0) else (0, 2)
theorem least_bd {B : Int} (s : Nat) (m : Int) (h1 : -B ≤ m) (h2 : m ≤ B) : -B ≤ (least s m).1 ∧ (least s m).1 ≤ B := by
  induction s generalizing m with
  | zero => exact ⟨h1, h2⟩
  | succ s ih =>
    unfold least
    split
    · have := tdiv_bd (t := 10) h1 h2 (by omega)
      exact ih _ this.1 this.2
    · exact ⟨h1, h2⟩
end Go.Fx
namespace Go.Proofs
open Go.RowKit Go.Fx
attribute [local go_sem] Oper.semAt_some

theorem Try.rTo_arg (m s k : Int) (hk : k < 0 ∨ 6 < k) (w : World) :
    Calls Try.prog 43 #[.agg #[.int .i64 m, .int .i64 s], .int .i64 k] w fun e w' => e = .returned (.tuple #[.int .i64 0, .int .i64 1]) ∧ Below w.heap.size w w' := by
  rcases hk with h | h
  · go_enter Try.func43, Try.ntmps43
    go_wp2
    go_ret2
    exact ⟨rfl, (Below.refl _ w).alloc (Nat.le_refl _) _⟩
  · go_enter Try.func43, Try.ntmps43
    go_wp2
    go_ret2
    exact ⟨rfl, (Below.refl _ w).alloc (Nat.le_refl _) _⟩

set_option maxHeartbeats 400000 in
theorem Try.rTo_low (m : Int) (s : Nat) (k a : Int) (b : Nat) (hx : mayB m s = true) (h0 : 0 ≤ k) (h6 : k ≤ 6) (hl : least s m = (a, b)) (hb : k < (b : Int)) (w : World) :
    Calls Try.prog 43 #[.agg #[.int .i64 m, .int .i64 (s : Int)], .int .i64 k] w fun e w' => e = .returned (.tuple #[.int .i64 0, .int .i64 21]) ∧ Below w.heap.size w w' := by
  obtain ⟨a1, a2, a3, a4⟩ := mayB_of hx
  clear hx
  have HC : ∀ W, Calls Try.prog 66 #[.agg #[.int .i64 m, .int .i64 (s : Int)]] W fun e w' => e = .returned (.agg #[.int .i64 a, .int .i64 (b : Int)]) ∧ Below W.heap.size W w' := by
    intro W
    have := Try.rLeast_any m s (by omega) (by omega) (by omega) W
    rwa [hl] at this
  clear hl
  have H := Lib.hid HC
  clear HC
  go_enter Try.func43, Try.ntmps43
  go_wp2_with (go_at_call 66; refine (H.out _).mono ?_; rintro e w1 ⟨rfl, hb1⟩; obtain ⟨hc, hf⟩ := bcell hb1; have hz : w.heap.size < w1.heap.size := by have := hb1.size; simp at this; omega)
  go_ret2
  exact ⟨rfl, ((((Below.refl _ w).alloc (Nat.le_refl _) _).trans (hb1.mono (by simp))).setCell (by simp) _).setCell (by simp) _⟩

set_option maxHeartbeats 400000 in
theorem Try.rTo_high (m : Int) (s : Nat) (k a : Int) (b : Nat) (hx : mayB m s = true) (h0 : 0 ≤ k) (h6 : k ≤ 6) (hl : least s m = (a, b)) (hb : (b : Int) ≤ k) (w : World) :
    Calls Try.prog 43 #[.agg #[.int .i64 m, .int .i64 (s : Int)], .int .i64 k] w fun e w' => e = .returned (.tuple #[.int .i64 (if fitB (a * p10 (k - b)) = true then a * p10 (k - b) else 0), .int .i64 (if fitB (a * p10 (k - b)) = true then 0 else 2)]) ∧ Below w.heap.size w w' := by
  obtain ⟨a1, a2, a3, a4⟩ := mayB_of hx
  clear hx
  have ab : -1000000000000 ≤ a ∧ a ≤ 1000000000000 := by have := least_bd (B := 1000000000000) s m (by omega) (by omega); rw [hl] at this; exact this
  have HC : ∀ W, Calls Try.prog 66 #[.agg #[.int .i64 m, .int .i64 (s : Int)]] W fun e w' => e = .returned (.agg #[.int .i64 a, .int .i64 (b : Int)]) ∧ Below W.heap.size W w' := by
    intro W
    have := Try.rLeast_any m s (by omega) (by omega) (by omega) W
    rwa [hl] at this
  clear hl
  have H := Lib.hid HC
  clear HC
  have e1 : IntKind.i64.wrap (k - (b : Int)) = k - b := IntWalk.i64_in _ (by omega)
  have sb : -1000000000000000000 ≤ a * p10 (k - b) ∧ a * p10 (k - b) ≤ 1000000000000000000 := by
    have := scale_bd (s := b + 6 - k) (by omega) (by omega) ab.1 ab.2
    rwa [show 6 - ((b : Int) + 6 - k) = k - b from by omega] at this
  obtain ⟨x, hx⟩ : ∃ x, x = a * p10 (k - b) := ⟨_, rfl⟩
  have hw : Hid (wrap64 (a * p10 (k - b)) = x) := by rw [← hx] at sb ⊢; unfold Hid wrap64; omega
  rw [← hx]
  clear hx sb
  have hb' : decide (k < (b : Int)) = false := decide_eq_false (by omega)
  go_enter Try.func43, Try.ntmps43
  go_wp2_with (go_at_call 66; refine (H.out _).mono ?_; rintro e w1 ⟨rfl, hb1⟩; obtain ⟨hc, hf⟩ := bcell hb1; have hz : w.heap.size < w1.heap.size := by have := hb1.size; simp at this; omega)
  go_quiet ((go_at_call 44; exact quiet_left (Try.rtens_int _ (by omega) (by omega) _)))
  rw [hw.out]
  by_cases hF : fitB x = true
  · have F := Lib.hid hF
    have hx := fitB_of hF
    clear hF
    go_wp2
    go_ret2
    exact ⟨(by first | rfl | (rw [if_pos F.out, if_pos F.out])), fxbelow_drewN (((((Below.refl _ w).alloc (Nat.le_refl _) _).trans (hb1.mono (by simp))).setCell (by simp) _).setCell (by simp) _) _⟩
  · have F := Lib.hid hF
    have hx := fitB_not hF
    clear hF
    rcases hx with hx | hx
    · go_wp2
      go_ret2
      exact ⟨(by first | rfl | (rw [if_neg F.out, if_neg F.out])), fxbelow_drewN (((((Below.refl _ w).alloc (Nat.le_refl _) _).trans (hb1.mono (by simp))).setCell (by simp) _).setCell (by simp) _) _⟩
    · go_wp2
      go_ret2
      exact ⟨(by first | rfl | (rw [if_neg F.out, if_neg F.out])), fxbelow_drewN (((((Below.refl _ w).alloc (Nat.le_refl _) _).trans (hb1.mono (by simp))).setCell (by simp) _).setCell (by simp) _) _⟩

theorem Try.rTo_any (m : Int) (s : Nat) (k : Int) (hx : mayB m s = true) (w : World) :
    Calls Try.prog 43 #[.agg #[.int .i64 m, .int .i64 (s : Int)], .int .i64 k] w fun e w' => e = .returned (.tuple #[.int .i64 (toR m s k).1, .int .i64 (toR m s k).2]) ∧ Below w.heap.size w w' := by
  by_cases h : k < 0 ∨ 6 < k
  · have hT : toR m s k = (0, 1) := by unfold toR; rw [if_pos h]
    rw [hT]
    exact Try.rTo_arg m s k h w
  · by_cases hb : k < ((least s m).2 : Int)
    · have hT : toR m s k = (0, 21) := by unfold toR; rw [if_neg h, if_pos hb]
      rw [hT]
      exact Try.rTo_low m s k _ _ hx (by omega) (by omega) rfl hb w
    · have := Try.rTo_high m s k _ _ hx (by omega) (by omega) rfl (by omega) w
      unfold toR
      rw [if_neg h, if_neg hb]
      split
      · rename_i hF; rw [if_pos hF, if_pos hF] at this; exact this
      · rename_i hF; rw [if_neg hF, if_neg hF] at this; exact this
#print axioms Try.rTo_any
end Go.Proofs
