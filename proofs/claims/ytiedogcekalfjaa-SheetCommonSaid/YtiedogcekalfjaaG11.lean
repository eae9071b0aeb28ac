/- The landed take of layer 13, by fixed.Read. Conditions: as SheetPTakeI. -/
import Derived.Test.YtiedogcekalfjaaG10
import Derived.Test.YtiedogcekalfjaaG09
namespace Go.Proofs
open Go.RowKit Go.Shelf Go.Cur Go.Wds Go.Sheet Go.Fx
attribute [local go_sem] Oper.semAt_some
set_option maxRecDepth 100000 in
set_option maxHeartbeats 8000000 in
theorem Try.takeN_calls (s : ByteArray) (L : List (List (Nat × Nat))) (v : Value) (w : World) (hs : s.size ≤ 1000000) (hl : L.length ≤ 1000000) (hf : L.flatten.length ≤ 2000000) (hv : HasLsts w v L) :
    Calls Try.prog 38 #[.string s, .func (.func 39) #[] #[], v] w fun e w' => ∃ u, e = .returned (.tuple #[u, .agg #[.int .i64 ((takeW (rdR s) L.flatten).2.1 : Nat), .int .i64 (takeW (rdR s) L.flatten).2.2]]) ∧ w'.ownsRow (w.heap.size + 1) 58 2 u (takeW (rdR s) L.flatten).1.length ((takeW (rdR s) L.flatten).1.flatMap nmC) ∧ Below w.heap.size w w' := by
  obtain ⟨i0, hio, hz0, hz1, hz2⟩ := info_parts Try.sinfo58
  have HI := Lib.hid hio
  obtain ⟨av, cv, rfl, hw⟩ := hv
  have HW := Lib.hid hw
  have HTX : Hid (∀ (a b : Nat) (W : World), Calls Try.prog 32 #[.string s, .agg #[.int .i64 (a : Nat), .int .i64 (b : Nat)]] W fun e w' => e = .returned (.string (wordT s (a, b))) ∧ Below W.heap.size W w') := fun a b W => Try.Text_calls s (a : Nat) (b : Nat) W
  have HRI := Lib.hid fun w W => Try.pReadW s w hs W
  have HBAD : Hid (∀ k j P w, L[k]? = some P → P[j]? = some w → (∀ v ∈ (L.take k).flatten ++ P.take j, (rdR s v).2 = 0) → (rdR s w).2 ≠ 0 → takeW (rdR s) L.flatten = ([], w.1, (rdR s w).2)) := fun k j P w h1 h2 => takeW_at (tkflat_split h1 h2)
  have HALL : Hid ((∀ v ∈ (L.take L.length).flatten, (rdR s v).2 = 0) → takeW (rdR s) L.flatten = ((L.take L.length).flatten.map fun w => (rdR s w).1, 0, 0)) := fun h => by rw [List.take_length] at h ⊢; exact takeW_all h
  have HOK : Hid (∀ (k j : Nat) (P : List (Nat × Nat)) (w : Nat × Nat), P[j]? = some w → (∀ v ∈ (L.take k).flatten ++ P.take j, (rdR s v).2 = 0) → (rdR s w).2 = 0 → ∀ v ∈ (L.take k).flatten ++ P.take (j + 1), (rdR s v).2 = 0) := fun k j P w => tkok_snoc
  have HMP : Hid (∀ (k j : Nat) (P : List (Nat × Nat)) (w : Nat × Nat), P[j]? = some w → ((L.take k).flatten ++ P.take (j + 1)).map (fun w => (rdR s w).1) = ((L.take k).flatten ++ P.take j).map (fun w => (rdR s w).1) ++ [(rdR s w).1]) := fun k j P w h => tkmap_snoc h
  have HFT : Hid (∀ k P, L[k]? = some P → (L.take (k + 1)).flatten = (L.take k).flatten ++ P) := fun k P h => tkflat_take h
  have HFL : Hid (∀ k j P w, L[k]? = some P → P[j]? = some w → ((L.take k).flatten ++ P.take j).length + 1 ≤ 2000000) := fun k j P w h1 h2 => Nat.le_trans (tkflat_len h1 h2) hf
  obtain ⟨n, hn⟩ : ∃ n, L.length = n := ⟨_, rfl⟩
  have HN := Lib.hid hn
  rw [hn] at hl HALL ⊢
  have HS0 := Lib.hid (fnS_nil w)
  clear hw hn hio hf
  generalize takeW (rdR s) L.flatten = R at *
  go_enter Try.func38, Try.ntmps38
  go_wp2
  go_loopw [8, 17] (fun o i wr => ∃ k : Nat, k ≤ n ∧ i = .int .i64 (k : Int) ∧ Hid (∀ v ∈ (L.take k).flatten, (rdR s v).2 = 0) ∧ FnS w o ((L.take k).flatten.map fun w => (rdR s w).1) wr) (fun _ i _ => n - (intOf i).toNat)
  case atStart => exact ⟨0, Nat.zero_le _, rfl, Lib.hid (fun v hv => by simp at hv), HS0.out⟩
  case round =>
    obtain ⟨k, hk, rfl, hG, hS⟩ := hrel
    have HS := Lib.hid hS
    clear HS0 hS
    by_cases hlt : k < n
    · obtain ⟨P, hp⟩ : ∃ q, L[k]? = some q := ⟨_, List.getElem?_eq_getElem (by have := HN.out; omega)⟩
      obtain ⟨g, u, rfl, hg, e0, hP⟩ := HW.out k P hp
      obtain ⟨ap, cp, rfl, hP1⟩ := hP
      have HP1 := Lib.hid hP1
      replace e0 := (HS.out.below.cell (p := ⟨g, _, none⟩) hg).trans e0
      have hki : (k : Int) < (n : Int) := by omega
      obtain ⟨m, hm⟩ : ∃ m, P.length = m := ⟨_, rfl⟩
      have HM := Lib.hid hm
      rw [hm] at e0
      have HPA : Hid (P.take m = P) := by unfold Hid; rw [← hm]; exact List.take_length
      have HPK := Lib.hid hp
      have HJ0 : Hid ((∀ v ∈ (L.take k).flatten ++ P.take 0, (rdR s v).2 = 0) ∧ FnS w u8 (((L.take k).flatten ++ P.take 0).map fun w => (rdR s w).1) wr) := by
        unfold Hid; rw [List.take_zero, List.append_nil]; exact ⟨hG.out, HS.out⟩
      have hmm : m ≤ 2000000 := by
        rcases Nat.eq_zero_or_pos m with h | h
        · omega
        · obtain ⟨q, hq⟩ : ∃ q, P[m - 1]? = some q := ⟨_, List.getElem?_eq_getElem (by omega)⟩
          have := HFL.out k _ P q hp hq
          rw [List.length_append, List.length_take] at this
          omega
      clear hp hP1 hm hG HS
      go_wp2
      go_loopw [8, 23] (fun o i wr => ∃ j : Nat, j ≤ m ∧ i = .int .i64 (j : Int) ∧ Hid (∀ v ∈ (L.take k).flatten ++ P.take j, (rdR s v).2 = 0) ∧ FnS w o (((L.take k).flatten ++ P.take j).map fun w => (rdR s w).1) wr) (fun _ i _ => m - (intOf i).toNat)
      case atStart => exact ⟨0, Nat.zero_le _, rfl, Lib.hid HJ0.out.1, HJ0.out.2⟩
      case round =>
        obtain ⟨j, hj, rfl, hG, hS⟩ := hrel
        have HS := Lib.hid hS
        clear HJ0 hS
        by_cases hjt : j < m
        · obtain ⟨⟨a, b⟩, hq⟩ : ∃ q, P[j]? = some q := ⟨_, List.getElem?_eq_getElem (by have := HM.out; omega)⟩
          obtain ⟨h, off, rfl, hh, x0, x1⟩ := HP1.out j a b hq
          replace x0 := (HS.out.below.cell (p := ⟨h, _, none⟩) hh).trans x0
          replace x1 := (HS.out.below.cell (p := ⟨h, _, none⟩) hh).trans x1
          have hji : (j : Int) < (m : Int) := by omega
          have HX := Lib.hid fun W => HTX.out a b W
          have HR := Lib.hid fun W => HRI.out (a, b) W
          have HFB := Lib.hid (HFL.out k j P _ HPK.out hq)
          have HBX := World.alloc_heap_new wr (.cells #[.int .i64 (a : Nat), .int .i64 (b : Nat)] 80)
          have HBY : Hid (∀ W, Below (wr.alloc (.cells #[.int .i64 (a : Nat), .int .i64 (b : Nat)] 80)).heap.size (wr.alloc (.cells #[.int .i64 (a : Nat), .int .i64 (b : Nat)] 80)) W → W.cell? ⟨wr.heap.size, 0, none⟩ = some (.int .i64 (a : Nat))) := fun W hW => by
            have := (hW.block _ (by simp)).trans HBX
            unfold World.cell?; rw [this]; rfl
          have HSA := Lib.hid (HS.out.next (fbelow_box_s wr (.cells #[.int .i64 (a : Nat), .int .i64 (b : Nat)] 80)))
          clear HBX
          by_cases hz : (rdR s (a, b)).2 = 0
          · have HO := Lib.hid (HOK.out k j P _ hq hG.out hz)
            have HT := Lib.hid (HMP.out k j P _ hq)
            simp only [hz] at HR
            have hfb := HFB.out
            have hlen : (((L.take k).flatten ++ P.take j).map fun w => (rdR s w).1).length = ((L.take k).flatten ++ P.take j).length := List.length_map _
            generalize (rdR s (a, b)).1 = x at *
            obtain ⟨x, y⟩ := x
            simp only at HR
            generalize wordT s (a, b) = T at *
            generalize (((L.take k).flatten ++ P.take j).map fun w => (rdR s w).1) = S at *
            obtain ⟨q, hq2⟩ : ∃ q, ((L.take k).flatten ++ P.take j).length = q := ⟨_, rfl⟩
            rw [hq2] at hlen hfb
            have HLN := Lib.hid hlen
            have hml : q + 1 ≤ maxLen := by unfold maxLen; omega
            have hml2 : (q + 1) * 16 ≤ 140737488355328 := by omega
            have HGO : Hid (∀ W, FnS w u8 S W → ((W.alloc (.cells #[.int .i64 x, .int .i64 (y : Nat)] 58)).ownsRow (w.heap.size + 1) 58 2 u8 q (S.flatMap nmC)) ∧ w.heap.size + 1 ≤ W.heap.size ∧ (∀ v' w5, w5.ownsRow (w.heap.size + 1) 58 2 v' (q + 1) (S.flatMap nmC ++ [.int .i64 x, .int .i64 (y : Nat)]) → (W.alloc (.cells #[.int .i64 x, .int .i64 (y : Nat)] 58)).grownBy w5 u8.ownBlock → FnS w v' (S ++ [(x, y)]) w5)) := fun W h =>
              ⟨by have e := (h.next (fbelow_box_s W (.cells #[.int .i64 x, .int .i64 (y : Nat)] 58))).row; rw [HLN.out] at e; exact e, h.lt, fun v' w5 h1 h2 => (h.next (fbelow_box_s W _)).grow h2 (by rw [List.flatMap_append, List.length_append, HLN.out]; simpa [nmC] using h1)⟩
            clear hq hz hlen hq2 hfb HS
            go_wp2_with (first
              | (go_at_call 32; (with_reducible refine (HX.out _).mono ?_); rintro e w1 ⟨rfl, hb1⟩; have HS1 := Lib.hid (HSA.out.next hb1); clear hb1)
              | (go_at_call 39; (with_reducible refine (HR.out _).mono ?_); rintro e w2 ⟨rfl, hb2⟩; have HS2 := Lib.hid ((HS1.out.next hb2).next (fbelow_box_s w2 (.cells #[.int .i64 x, .int .i64 (y : Nat)] 58))); obtain ⟨g1, g2, g3⟩ := HGO.out _ HS2.out; have HG1 := Lib.hid g1; have HG3 := Lib.hid g3; clear hb2 g1 g3)
              | (at_builtin; refine wpList_append_own _ rfl _ _ 45 rfl (w.heap.size + 1) 58 i0 (.agg #[.int .i64 0, .int .i64 0]) 2 16 Try.underlying45 HI.out hz0 hz1 hz2 rfl (by decide) u8 q (S.flatMap nmC) rfl HG1.out ⟨w2.heap.size + 1, 0, none⟩ 1 1 [.int .i64 x, .int .i64 (y : Nat)] rfl rfl (fun j u h => by have := cells_arr_s (w2.alloc (.cells #[.int .i64 x, .int .i64 (y : Nat)] 58)) #[.int .i64 x, .int .i64 (y : Nat)] 58 j u h; rw [World.size_alloc] at this; exact this) (by simp [Value.oneCell']) hml hml2 (by simp at g2 ⊢; omega) ?_; intro v' w5 hown' hgrow _; have HS7 := Lib.hid (HG3.out v' w5 hown' hgrow); clear hown' hgrow))
            go_roundw
            case rel => exact ⟨j + 1, by omega, by go_num, HO, by rw [HT.out]; exact HS7.out⟩
            case measure => simp [intOf]; omega
          · have HE := Lib.hid (HBAD.out k j P _ HPK.out hq hG.out hz)
            have d : ((rdR s (a, b)).2 != 0) = true := bne_iff_ne.2 hz
            generalize (rdR s (a, b)).2 = z at *
            generalize (rdR s (a, b)).1 = x at *
            obtain ⟨x, y⟩ := x
            simp only at HR
            generalize wordT s (a, b) = T at *
            clear hq hz HS
            go_wp2_with (first
              | (go_at_call 32; (with_reducible refine (HX.out _).mono ?_); rintro e w1 ⟨rfl, hb1⟩; have HS1 := Lib.hid (HSA.out.next hb1); have HB1 := Lib.hid hb1; clear hb1)
              | (go_at_call 39; (with_reducible refine (HR.out _).mono ?_); rintro e w2 ⟨rfl, hb2⟩; go_loud (have HS2 := Lib.hid ((HS1.out.next hb2).next (fbelow_box_s w2 (.cells #[.int .i64 x, .int .i64 (y : Nat)] 58))); have HB2 := Lib.hid (HB1.out.trans (hb2.mono HB1.out.size)); clear hb2 x0 x1 e0)))
            obtain ⟨V, hV⟩ : ∃ V, V = (w2.alloc (.cells #[.int .i64 x, .int .i64 (y : Nat)] 58)) := ⟨_, rfl⟩
            have y0 := HBY.out V (by rw [hV]; exact HB2.out.trans ((fbelow_box_s w2 _).mono HB2.out.size))
            rw [← hV] at HS2 ⊢
            clear hV
            obtain ⟨r0, r1, f0, f1⟩ := HS2.out.cells
            have hsz := HS2.out.lt
            have HB3 := Lib.hid HS2.out.below
            generalize wr.heap.size = B at *
            go_region
            go_wp2
            refine bodyPost_ret (v := .tuple #[.slice none 0 0, .agg #[.int .i64 (a : Nat), .int .i64 z]]) (by simp [results, Try.results38, go_sem, r0, r1]) rfl ⟨.slice none 0 0, by rw [HE.out], by rw [HE.out]; exact ⟨rfl, .inl ⟨rfl, rfl⟩⟩, ?_⟩
            exact below_drew_s ((HB3.out.setCell (Nat.le_refl _) _).setCell (Nat.le_refl _) _)
        · obtain rfl : j = m := by omega
          have HH : Hid ((∀ v ∈ (L.take (k + 1)).flatten, (rdR s v).2 = 0) ∧ FnS w u8 ((L.take (k + 1)).flatten.map fun w => (rdR s w).1) wr) := by
            unfold Hid
            have h1 := hG.out
            have h2 := HS.out
            rw [HPA.out, ← HFT.out k P HPK.out] at h1 h2
            exact ⟨h1, h2⟩
          clear hj hjt hG HS
          go_wp2
          go_roundw
          case rel => exact ⟨k + 1, by omega, by go_num, Lib.hid HH.out.1, HH.out.2⟩
          case measure => simp [intOf]; omega
    · obtain rfl : k = n := by omega
      have HE := Lib.hid (HALL.out hG.out)
      have hI := Lib.hid (own_set_s (own_set_s HS.out.row (a := ⟨w.heap.size, 0, none⟩) (Nat.lt_succ_self _) (.int .i64 0)) (a := ⟨w.heap.size, 1, none⟩) (Nat.lt_succ_self _) (.int .i64 0))
      obtain ⟨r0, r1, f0, f1⟩ := HS.out.cells
      have hsz := HS.out.lt
      have HB2 := Lib.hid HS.out.below
      clear hlt hk
      go_wp2
      refine bodyPost_ret (v := .tuple #[u8, .agg #[.int .i64 0, .int .i64 0]]) (by simp [results, Try.results38, go_sem, r0, r1]) rfl ⟨u8, by rw [HE.out]; rfl, by rw [HE.out]; exact hI.out, ?_⟩
      exact (HB2.out.setCell (Nat.le_refl _) _).setCell (Nat.le_refl _) _
end Go.Proofs
/- The landed first of layer 13. Conditions: as many words and rows as a million at most; a number that an int holds. -/
namespace Go.Sheet
open Go.Cur Go.Wds Go.Proofs Go.Fx
/-- The words of rows up to the n-th, a list for each row. -/
def firstL : List Rw → Nat → List (List (Nat × Nat))
  | _, 0 => []
  | [], _ + 1 => []
  | p :: l, n + 1 => p.2.take (n + 1) :: firstL l (n + 1 - p.2.length)
/-- What is left of the row of the last one. -/
def restL : List Rw → Nat → List (Nat × Nat) → List (Nat × Nat)
  | _, 0, r => r
  | [], _ + 1, r => r
  | p :: l, n + 1, _ => restL l (n + 1 - p.2.length) (p.2.drop (n + 1))
theorem firstL_nil (n : Nat) : firstL [] n = [] := by cases n <;> rfl
theorem restL_nil (n : Nat) (r : List (Nat × Nat)) : restL [] n r = r := by cases n <;> rfl
theorem firstL_zero (l : List Rw) : firstL l 0 = [] := by cases l <;> rfl
theorem restL_zero (l : List Rw) (r : List (Nat × Nat)) : restL l 0 r = r := by cases l <;> rfl
theorem firstL_cons (p : Rw) (l : List Rw) {n : Nat} (h : 0 < n) : firstL (p :: l) n = p.2.take n :: firstL l (n - p.2.length) := by
  obtain ⟨m, rfl⟩ : ∃ m, n = m + 1 := ⟨n - 1, by omega⟩
  rfl
theorem restL_cons (p : Rw) (l : List Rw) {n : Nat} (r : List (Nat × Nat)) (h : 0 < n) : restL (p :: l) n r = restL l (n - p.2.length) (p.2.drop n) := by
  obtain ⟨m, rfl⟩ : ∃ m, n = m + 1 := ⟨n - 1, by omega⟩
  rfl
theorem firstL_len : ∀ (l : List Rw) (n : Nat), (firstL l n).length ≤ l.length
  | [], n => by rw [firstL_nil]; exact Nat.le_refl _
  | p :: l, 0 => by rw [firstL_zero]; exact Nat.zero_le _
  | p :: l, n + 1 => by
    have := firstL_len l (n + 1 - p.2.length)
    rw [firstL, List.length_cons, List.length_cons]; omega
theorem firstL_flat : ∀ (l : List Rw) (n : Nat), (firstL l n).flatten.length ≤ totW l
  | [], n => by rw [firstL_nil]; exact Nat.zero_le _
  | p :: l, 0 => by rw [firstL_zero]; exact Nat.zero_le _
  | p :: l, n + 1 => by
    have := firstL_flat l (n + 1 - p.2.length)
    rw [firstL, List.flatten_cons, List.length_append, List.length_take]
    show _ ≤ totW (p :: l)
    have e : totW (p :: l) = p.2.length + totW l := by simp [totW]
    rw [e]; omega
/-- sheet.Flat, as the landed package has it. -/
def progE (s : ByteArray) (l : List Rw) (n : Nat) (r : List (Nat × Nat)) : List Int × Nat × Nat × Int :=
  if (takeW (rdI s) (firstL l n).flatten).2.2 ≠ 0 then ([], 0, (takeW (rdI s) (firstL l n).flatten).2.1, (takeW (rdI s) (firstL l n).flatten).2.2)
  else if (takeW (rdI s) (firstL l n).flatten).1.length < n then ([], 0, s.size, 4)
  else match restL l n r with
    | w :: _ => ([], 0, w.1, 3)
    | [] => ((takeW (rdI s) (firstL l n).flatten).1, (firstL l n).length, 0, 0)
theorem takeW_nil {α : Type} (rd : Nat × Nat → α × Int) : takeW rd [] = ([], 0, 0) := rfl
theorem takeW_append {α : Type} (rd : Nat × Nat → α × Int) (A B : List (Nat × Nat)) : takeW rd (A ++ B) = if (takeW rd A).2.2 ≠ 0 then ([], (takeW rd A).2) else if (takeW rd B).2.2 ≠ 0 then ([], (takeW rd B).2) else (A.map (fun w => (rd w).1) ++ (takeW rd B).1, 0, 0) := by
  unfold takeW
  rw [List.find?_append]
  cases hA : A.find? (fun w => decide ((rd w).2 ≠ 0)) with
  | some w =>
    have := List.find?_some hA
    simp only [decide_eq_true_eq] at this
    simp [this]
  | none =>
    simp only [Option.none_or]
    cases hB : B.find? (fun w => decide ((rd w).2 ≠ 0)) with
    | some w =>
      have := List.find?_some hB
      simp only [decide_eq_true_eq] at this
      simp [this]
    | none => simp
theorem takeW_good {α : Type} {rd : Nat × Nat → α × Int} {A : List (Nat × Nat)} (h : (takeW rd A).2.2 = 0) : takeW rd A = (A.map (fun w => (rd w).1), 0, 0) := by
  unfold takeW at h ⊢
  cases hA : A.find? (fun w => decide ((rd w).2 ≠ 0)) with
  | some w =>
    have := List.find?_some hA
    simp only [decide_eq_true_eq] at this
    rw [hA] at h
    exact absurd h this
  | none => rfl
theorem progE_flat (s : ByteArray) : ∀ (l : List Rw) (n : Nat), progE s l n [] = flatE s l n
  | l, 0 => by
    unfold progE
    rw [firstL_zero, restL_zero]
    cases l <;> rfl
  | [], n + 1 => by
    unfold progE
    rw [firstL_nil]
    simp [takeW_nil, flatE]
  | p :: l, n + 1 => by
    have ih := progE_flat s l (n + 1 - p.2.length)
    unfold progE at ih ⊢
    rw [firstL_cons p l (Nat.succ_pos n), restL_cons p l [] (Nat.succ_pos n), List.flatten_cons, takeW_append]
    rw [flatE]
    by_cases h1 : (takeW (rdI s) (p.2.take (n + 1))).2.2 = 0
    · have h1g := takeW_good h1
      simp only [h1, ne_eq, not_true_eq_false, if_false]
      by_cases h2 : n + 1 < p.2.length
      · have e0 : n + 1 - p.2.length = 0 := by omega
        rw [e0, firstL_zero, restL_zero, if_pos h2]
        obtain ⟨w, hw⟩ : ∃ w, p.2[n + 1]? = some w := ⟨_, List.getElem?_eq_getElem h2⟩
        have hd : p.2.drop (n + 1) = w :: p.2.drop (n + 2) := by
          obtain ⟨hk, rfl⟩ := List.getElem?_eq_some_iff.1 hw
          exact List.drop_eq_getElem_cons hk
        have hlen : ((p.2.take (n + 1)).map fun w => (rdI s w).1).length = n + 1 := by rw [List.length_map, List.length_take]; omega
        simp only [List.flatten_nil, takeW_nil, List.append_nil, hlen, hd, if_false, not_true_eq_false, Nat.lt_irrefl, List.getD_eq_getElem?_getD, hw, Option.getD_some]
      · rw [if_neg h2]
        have e1 : p.2.take (n + 1) = p.2 := List.take_of_length_le (by omega)
        have e2 : p.2.drop (n + 1) = [] := List.drop_eq_nil_of_le (by omega)
        rw [e1, e2, ← ih]
        by_cases h3 : (takeW (rdI s) (firstL l (n + 1 - p.2.length)).flatten).2.2 = 0
        · simp only [h3, not_true_eq_false, if_false]
          by_cases h4 : (takeW (rdI s) (firstL l (n + 1 - p.2.length)).flatten).1.length < n + 1 - p.2.length
          · have h5 : (List.map (fun w => (rdI s w).1) p.2 ++ (takeW (rdI s) (firstL l (n + 1 - p.2.length)).flatten).1).length < n + 1 := by rw [List.length_append, List.length_map]; omega
            rw [if_pos h5, if_pos h4]
            simp
          · have h5 : ¬ (List.map (fun w => (rdI s w).1) p.2 ++ (takeW (rdI s) (firstL l (n + 1 - p.2.length)).flatten).1).length < n + 1 := by rw [List.length_append, List.length_map]; omega
            rw [if_neg h5, if_neg h4]
            cases restL l (n + 1 - p.2.length) [] with
            | nil => simp
            | cons w r => simp
        · simp [h3]
    · simp [h1]
end Go.Sheet
/- The landed first of layer 13, walked. Conditions: rows at most a million; a number that an int holds. -/
namespace Go.Proofs
open Go.RowKit Go.Shelf Go.Cur Go.Wds Go.Sheet Go.Fx
attribute [local go_sem] Oper.semAt_some
theorem Try.sinfo30 : (Try.prog.info? 30).map (fun i => (i.zero, i.size, i.bytes)) = some (some (.slice none 0 0), 1, 24) := by kernel_rfl
/-- The lists so far. -/
structure FsS (w : World) (o : Value) (us : List Value) (W : World) : Prop where
  below : Below w.heap.size w W
  row : W.ownsRow w.heap.size 30 1 o us.length us
theorem FsS.next {w W W' : World} {o : Value} {us : List Value} (h : FsS w o us W) (hb : Below W.heap.size W W') : FsS w o us W' := ⟨h.below.trans (hb.mono h.below.size), ownsRow_below h.row hb (Nat.le_refl _)⟩
theorem FsS.grow {w W W' : World} {o o' u : Value} {us : List Value} (h : FsS w o us W) (hg : W.grownBy W' o.ownBlock) (hr : W'.ownsRow w.heap.size 30 1 o' (us.length + 1) (us ++ [u])) : FsS w o' (us ++ [u]) W' :=
  ⟨below_append_s h.below h.below.size h.row hg, by rw [List.length_append]; exact hr⟩
/-- The values are these lists of words, in w. -/
def ValsO (w : World) (us : List Value) (pss : List (List (Nat × Nat))) : Prop := us.length = pss.length ∧ ∀ (i : Nat) (ps : List (Nat × Nat)), pss[i]? = some ps → ∃ u, us[i]? = some u ∧ HasWdsO w u ps
theorem ValsO.snoc {w : World} {us : List Value} {l : List (List (Nat × Nat))} {u : Value} {p : List (Nat × Nat)} (h : ValsO w us l) (hu : HasWdsO w u p) : ValsO w (us ++ [u]) (l ++ [p]) := by
  refine ⟨by simp [h.1], fun i r hi => ?_⟩
  by_cases hlt : i < l.length
  · rw [List.getElem?_append_left hlt] at hi
    obtain ⟨v, h1, h2⟩ := h.2 i r hi
    exact ⟨v, by rw [List.getElem?_append_left (by rw [h.1]; exact hlt)]; exact h1, h2⟩
  · rw [List.getElem?_append_right (by omega)] at hi
    have hlen := (List.getElem?_eq_some_iff.1 hi).1
    have e0 : i = l.length := by simp at hlen; omega
    subst e0
    simp only [Nat.sub_self, List.getElem?_cons_zero, Option.some.injEq] at hi
    subst hi
    exact ⟨u, by rw [List.getElem?_append_right (by rw [h.1]; exact Nat.le_refl _), h.1]; simp, hu⟩
theorem lsts_of {w W : World} {o : Value} {us : List Value} {l : List (List (Nat × Nat))} (h : FsS w o us W) (hv : ValsO w us l) : HasLsts W o l := by
  have hr := h.row
  rw [← List.flatMap_singleton' us] at hr
  rcases owns_flat (f := fun x : Value => [x]) (fun _ => rfl) (by simpa using hr) with ⟨rfl, rfl⟩ | ⟨g, cap, rfl, _, _, h4, h5⟩
  · have : l = [] := List.length_eq_zero_iff.1 hv.1.symm
    subst this
    exact ⟨none, 0, rfl, fun i ps hi => by simp at hi⟩
  · rw [hv.1]
    refine ⟨_, cap, rfl, fun i ps hi => ?_⟩
    obtain ⟨u, e1, e2⟩ := hv.2 i ps hi
    have := h5 i u 0 _ e1 rfl
    refine ⟨g, u, rfl, h4, by simpa using this, e2.later ?_⟩
    exact h.below
set_option maxRecDepth 100000 in
set_option maxHeartbeats 8000000 in
theorem Try.first_calls (l : List Rw) (n : Int) (v : Value) (w : World) (hl : l.length ≤ 1000000) (hn : n ≤ 9223372036854775807) (hv : HasRows w v l) :
    Calls Try.prog 41 #[v, .int .i64 n] w fun e w' => ∃ u r, e = .returned (.tuple #[u, r]) ∧ HasLsts w' u (firstL l n.toNat) ∧ HasWdsO w' r (restL l n.toNat []) ∧ Below w.heap.size w w' := by
  obtain ⟨i0, hio, hz0, hz1, hz2⟩ := info_parts Try.sinfo30
  have HI := Lib.hid hio
  obtain ⟨av, cv, rfl, hv1⟩ := hv.dat
  have HV := Lib.hid hv1
  obtain ⟨FL, hFL⟩ : ∃ F, firstL l n.toNat = F := ⟨_, rfl⟩
  obtain ⟨RL, hRL⟩ : ∃ F, restL l n.toNat [] = F := ⟨_, rfl⟩
  rw [hFL, hRL]
  have HF0 : Hid ([] ++ firstL (l.drop 0) n.toNat = FL ∧ restL (l.drop 0) n.toNat [] = RL) := ⟨hFL, hRL⟩
  obtain ⟨L, hL⟩ : ∃ n, l.length = n := ⟨_, rfl⟩
  have HLL := Lib.hid hL
  rw [hL] at hl ⊢
  have HS0 : Hid (FsS w (.slice none 0 0) [] w) := ⟨Below.refl _ _, ⟨rfl, .inl ⟨rfl, rfl⟩⟩⟩
  clear hv hv1 hio hL hFL hRL
  go_enter Try.func41, Try.ntmps41
  go_wp2
  go_loopw [1, 6, 7, 13] (fun n1 o rv i wr => ∃ (k : Nat) (nk : Int) (us : List Value) (A : List (List (Nat × Nat))) (R : List (Nat × Nat)), k ≤ L ∧ i = .int .i64 (k : Int) ∧ n1 = .int .i64 nk ∧ nk ≤ 9223372036854775807 ∧ A.length ≤ k ∧ HasWdsO w rv R ∧ ValsO w us A ∧ Hid (A ++ firstL (l.drop k) nk.toNat = FL ∧ restL (l.drop k) nk.toNat R = RL) ∧ FsS w o us wr) (fun _ _ _ i _ => L - (intOf i).toNat)
  case atStart => exact ⟨0, n, [], [], [], Nat.zero_le _, rfl, rfl, hn, Nat.le_refl _, ⟨none, 0, rfl, fun i a b h => by simp at h⟩, ⟨rfl, fun i ps h => by simp at h⟩, HF0, HS0.out⟩
  case round =>
    obtain ⟨k, nk, us, A, R, hk, rfl, rfl, hnk, hA, hR, hU, hG, hS⟩ := hrel
    have HS := Lib.hid hS
    have HU := Lib.hid hU
    have HR := Lib.hid hR
    obtain ⟨ar, cr, rfl, _⟩ := hR
    have hB := hS.below
    clear HS0 HF0 hS hU hn
    have HEND : Hid (nk.toNat = 0 ∨ k = L → A = FL ∧ R = RL) := fun h => by
      have := hG.out
      rcases h with h | h
      · rw [h, firstL_zero, restL_zero, List.append_nil] at this; exact this
      · rw [h, ← HLL.out, List.drop_length, firstL_nil, restL_nil, List.append_nil] at this; exact this
    by_cases hlt : k < L
    · obtain ⟨⟨f, P⟩, hp⟩ : ∃ q, l[k]? = some q := ⟨_, List.getElem?_eq_getElem (by have := HLL.out; omega)⟩
      have hne : l ≠ [] := fun e => by rw [e] at hp; simp at hp
      obtain ⟨g, rfl, hg, h1⟩ := HV.out.resolve_left hne
      obtain ⟨x0', u1', x1', w1⟩ := h1 k _ hp
      have HW1 := Lib.hid w1
      obtain ⟨a1, c1, rfl, _, hc1⟩ := w1
      have hdrop : l.drop k = (f, P) :: l.drop (k + 1) := by
        obtain ⟨hk', e⟩ := List.getElem?_eq_some_iff.1 hp
        rw [← e]; exact List.drop_eq_getElem_cons hk'
      simp only at HW1 x1' hc1 x0'
      obtain ⟨pn, hpn⟩ : ∃ n, P.length = n := ⟨_, rfl⟩
      have HPN := Lib.hid hpn
      rw [hpn] at HW1 x1' hc1
      have x0 := (hB.cell (p := ⟨g, _, none⟩) hg).trans x0'
      have x1 := (hB.cell (p := ⟨g, _, none⟩) hg).trans x1'
      have hki : (k : Int) < (L : Int) := by omega
      have HS2 := Lib.hid (HS.out.next (fbelow_box_s wr (.cells #[.int .i64 (f : Nat), .slice a1 pn c1] 32)))
      have HD := Lib.hid hdrop
      clear hp hne h1 x0' x1' hB hdrop hpn
      by_cases hn1 : nk < 1
      · have HE := Lib.hid (HEND.out (.inl (by omega)))
        clear HEND
        go_wp2
        refine bodyPost_ret (v := .tuple #[u6, .slice ar R.length cr]) (by simp [results, Try.results41, go_sem]) rfl ?_
        exact ⟨_, _, rfl, by rw [← HE.out.1]; exact lsts_of HS2.out HU.out, by rw [← HE.out.2]; exact HR.out.later HS2.out.below, HS2.out.below⟩
      · obtain ⟨c, rfl⟩ : ∃ c : Nat, nk = (c : Int) := ⟨nk.toNat, by omega⟩
        have hc0 : 0 < c := by omega
        obtain ⟨mm, hmm⟩ : ∃ m, min c pn = m := ⟨_, rfl⟩
        have hmin : min (c : Int) (pn : Int) = (mm : Int) := by omega
        have hm1 : mm ≤ c := by omega
        have hm2 : mm ≤ pn := by omega
        have hm3 : mm ≤ c1 := by omega
        have HG2 : Hid ((A ++ [P.take mm]) ++ firstL (l.drop (k + 1)) (c - mm) = FL ∧ restL (l.drop (k + 1)) (c - mm) (P.drop mm) = RL) := by
          have h := hG.out
          have hpl := HPN.out
          rw [Int.toNat_natCast, HD.out, firstL_cons _ _ hc0, restL_cons _ _ _ hc0] at h
          have e1 : P.take c = P.take mm := by
            by_cases h9 : c ≤ pn
            · rw [show mm = c by omega]
            · rw [List.take_of_length_le (by omega), List.take_of_length_le (by omega)]
          have e2 : P.drop c = P.drop mm := by
            by_cases h9 : c ≤ pn
            · rw [show mm = c by omega]
            · rw [List.drop_eq_nil_of_le (by omega), List.drop_eq_nil_of_le (by omega)]
          have e3 : c - P.length = c - mm := by omega
          simp only [e1, e2, e3] at h
          rw [List.append_assoc, List.singleton_append]
          exact h
        have HW4 := Lib.hid (wds_sliced_h HW1.out hm2)
        have HW10 : Hid (HasWdsO w (sliced a1 mm pn c1 2) (P.drop mm)) := by
          have := wds_sliced HW1.out hm2 (Nat.le_refl pn)
          rw [← HPN.out, List.take_length, HPN.out] at this
          exact this
        obtain ⟨a4, q4, c4, hs4v⟩ : ∃ a q c, sliced a1 0 mm c1 2 = .slice a q c := ⟨_, _, _, rfl⟩
        obtain ⟨a10, q10, c10, hs10v⟩ : ∃ a q c, sliced a1 mm pn c1 2 = .slice a q c := ⟨_, _, _, rfl⟩
        have hs4 : ∀ W, (Instr.slice 30 (.slice a1 pn c1) none (some (.int .i64 (mm : Int))) none).run Try.prog W = .ok (.slice a4 q4 c4) W := fun W => by
          rw [run_slice_h W 30 a1 pn c1 Try.underlying30 .i64 (mm : Int) (by omega) (by omega), ← hs4v]
          rfl
        have hs10 : ∀ W, (Instr.slice 30 (.slice a1 pn c1) (some (.int .i64 (mm : Int))) none none).run Try.prog W = .ok (.slice a10 q10 c10) W := fun W => by
          rw [run_slice_l W 30 a1 pn c1 Try.underlying30 .i64 (mm : Int) (by omega) (by omega), ← hs10v]
          rfl
        rw [hs4v] at HW4
        rw [hs10v] at HW10
        have hus := HU.out.1
        have hml : us.length + 1 ≤ maxLen := by unfold maxLen; omega
        have hml2 : (us.length + 1) * 24 ≤ 140737488355328 := by omega
        clear hmm hs4v hs10v HEND hG HW1 hus
        go_upto_region 8 with (fail)
        obtain ⟨o, ho⟩ : ∃ o, u6 = o := ⟨_, rfl⟩
        have hBX := World.alloc_heap_new wr (.cells #[.int .i64 (f : Nat), .slice a1 pn c1] 32)
        obtain ⟨B, hBe⟩ : ∃ B, wr.heap.size = B := ⟨_, rfl⟩
        generalize hV : wr.alloc (.cells #[.int .i64 (f : Nat), .slice a1 pn c1] 32) = V at *
        rw [hBe] at hBX ⊢
        rw [ho] at HS2 ⊢
        clear hV hBe HS ho
        go_upto_region 8 with (fail)
        have N0 := HS2.out.next (below_drew_s (Below.refl _ _))
        have n0 : V.drew.heap[B]? = _ := hBX
        refine wp_region_held_drew (S := fun V => V.heap[B]? = some (.cells #[.int .i64 (f : Nat), .slice a1 pn c1] 32)) (by kernel_rfl) (n0) (fun hHeld0 => ?_)
        clear hHeld0
        generalize V.drew = V0 at *
        refine wpAnyH_take (i := 0) (v := ?_) rfl (by kernel_rfl) (by kernel_rfl) (by kernel_rfl) (fun _ _ _ h => h) (Or.inl ⟨by kernel_rfl, ?_⟩) (n0) ?_
        rotate_left
        · (intro w0 hSw; (try dsimp only at hSw); have y0 := box_cell_s hSw 0; have y1 := box_cell_s hSw 1; simp only [List.getElem?_toArray, List.getElem?_cons_zero, List.getElem?_cons_succ] at y0 y1; go_simp; try with_reducible rfl)
        try dsimp only [List.getElem_toArray, List.getElem_cons_succ, List.getElem_cons_zero, Act.put]
        try simp only [List.setIfInBounds_toArray, List.set_cons_zero, List.set_cons_succ]
        refine wpAnyH_take (i := 1) (v := ?_) rfl (by kernel_rfl) (by kernel_rfl) (by kernel_rfl) (fun _ _ _ h => h) (Or.inl ⟨by kernel_rfl, ?_⟩) (n0) ?_
        rotate_left
        · (intro w0 hSw; (try dsimp only at hSw); have y0 := box_cell_s hSw 0; have y1 := box_cell_s hSw 1; simp only [List.getElem?_toArray, List.getElem?_cons_zero, List.getElem?_cons_succ] at y0 y1; go_simp; try with_reducible rfl)
        try dsimp only [List.getElem_toArray, List.getElem_cons_succ, List.getElem_cons_zero, Act.put]
        try simp only [List.setIfInBounds_toArray, List.set_cons_zero, List.set_cons_succ]
        refine wpAnyH_take (i := 2) (v := ?_) rfl (by kernel_rfl) (by kernel_rfl) (by kernel_rfl) (fun _ _ _ h => h) (Or.inl ⟨by kernel_rfl, ?_⟩) (n0) ?_
        rotate_left
        · (intro w0 hSw; (try dsimp only at hSw); have y0 := box_cell_s hSw 0; have y1 := box_cell_s hSw 1; simp only [List.getElem?_toArray, List.getElem?_cons_zero, List.getElem?_cons_succ] at y0 y1; go_simp; try with_reducible rfl)
        try dsimp only [List.getElem_toArray, List.getElem_cons_succ, List.getElem_cons_zero, Act.put]
        try simp only [List.setIfInBounds_toArray, List.set_cons_zero, List.set_cons_succ]
        refine wpAnyH_take (i := 3) (v := ?_) rfl (by kernel_rfl) (by kernel_rfl) (by kernel_rfl) (fun _ _ _ h => h) (Or.inl ⟨by kernel_rfl, ?_⟩) (n0) ?_
        rotate_left
        · (intro w0 hSw; (try dsimp only at hSw); have y0 := box_cell_s hSw 0; have y1 := box_cell_s hSw 1; simp only [List.getElem?_toArray, List.getElem?_cons_zero, List.getElem?_cons_succ] at y0 y1; go_simp; try with_reducible rfl)
        try dsimp only [List.getElem_toArray, List.getElem_cons_succ, List.getElem_cons_zero, Act.put]
        try simp only [List.setIfInBounds_toArray, List.set_cons_zero, List.set_cons_succ]
        refine wpAnyH_take (i := 4) (v := .slice a4 q4 c4) rfl (by kernel_rfl) (by kernel_rfl) (by kernel_rfl) (fun _ _ _ h => h) (Or.inl ⟨by kernel_rfl, ?_⟩) (n0) ?_
        · (intro w0 hSw; (try dsimp only at hSw); have y0 := box_cell_s hSw 0; have y1 := box_cell_s hSw 1; simp only [List.getElem?_toArray, List.getElem?_cons_zero, List.getElem?_cons_succ] at y0 y1; go_simp <;> first | exact hs4 _ | rfl)
        try dsimp only [List.getElem_toArray, List.getElem_cons_succ, List.getElem_cons_zero, Act.put]
        try simp only [List.setIfInBounds_toArray, List.set_cons_zero, List.set_cons_succ]
        refine wpAnyH_take (i := 7) (v := ?_) rfl (by kernel_rfl) (by kernel_rfl) (by kernel_rfl) (fun _ _ _ h => h) (Or.inl ⟨by kernel_rfl, ?_⟩) (n0) ?_
        rotate_left
        · (intro w0 hSw; (try dsimp only at hSw); have y0 := box_cell_s hSw 0; have y1 := box_cell_s hSw 1; simp only [List.getElem?_toArray, List.getElem?_cons_zero, List.getElem?_cons_succ] at y0 y1; go_simp; try with_reducible rfl)
        try dsimp only [List.getElem_toArray, List.getElem_cons_succ, List.getElem_cons_zero, Act.put]
        try simp only [List.setIfInBounds_toArray, List.set_cons_zero, List.set_cons_succ]
        refine wpAnyH_take (i := 8) (v := ?_) rfl (by kernel_rfl) (by kernel_rfl) (by kernel_rfl) (fun _ _ _ h => h) (Or.inl ⟨by kernel_rfl, ?_⟩) (n0) ?_
        rotate_left
        · (intro w0 hSw; (try dsimp only at hSw); have y0 := box_cell_s hSw 0; have y1 := box_cell_s hSw 1; simp only [List.getElem?_toArray, List.getElem?_cons_zero, List.getElem?_cons_succ] at y0 y1; go_simp; try with_reducible rfl)
        try dsimp only [List.getElem_toArray, List.getElem_cons_succ, List.getElem_cons_zero, Act.put]
        try simp only [List.setIfInBounds_toArray, List.set_cons_zero, List.set_cons_succ]
        refine wpAnyH_take (i := 9) (v := ?_) rfl (by kernel_rfl) (by kernel_rfl) (by kernel_rfl) (fun _ _ _ h => h) (Or.inl ⟨by kernel_rfl, ?_⟩) (n0) ?_
        rotate_left
        · (intro w0 hSw; (try dsimp only at hSw); have y0 := box_cell_s hSw 0; have y1 := box_cell_s hSw 1; simp only [List.getElem?_toArray, List.getElem?_cons_zero, List.getElem?_cons_succ] at y0 y1; go_simp; try with_reducible rfl)
        try dsimp only [List.getElem_toArray, List.getElem_cons_succ, List.getElem_cons_zero, Act.put]
        try simp only [List.setIfInBounds_toArray, List.set_cons_zero, List.set_cons_succ]
        refine wpAnyH_take (i := 10) (v := .slice a10 q10 c10) rfl (by kernel_rfl) (by kernel_rfl) (by kernel_rfl) (fun _ _ _ h => h) (Or.inl ⟨by kernel_rfl, ?_⟩) (n0) ?_
        · (intro w0 hSw; (try dsimp only at hSw); have y0 := box_cell_s hSw 0; have y1 := box_cell_s hSw 1; simp only [List.getElem?_toArray, List.getElem?_cons_zero, List.getElem?_cons_succ] at y0 y1; go_simp <;> first | exact hs10 _ | rfl)
        try dsimp only [List.getElem_toArray, List.getElem_cons_succ, List.getElem_cons_zero, Act.put]
        try simp only [List.setIfInBounds_toArray, List.set_cons_zero, List.set_cons_succ]
        refine wpAnyH_ready (rs := [5]) (by kernel_rfl) (by simp) (AllReadyH.cons rfl (fun KK hKK => ?_) AllReadyH.nil)
        go_simp
        have hbx := fbelow_box_s V0 (.cells #[.slice a4 q4 c4] 30)
        have N2 := N0.next hbx
        have n2 := (hbx.block _ (Array.getElem?_eq_some_iff.1 n0).1).trans n0
        clear hbx
        refine hKK.out _ _ (n2) (fun _ => ?_)
        clear hKK KK
        try dsimp only [List.getElem_toArray, List.getElem_cons_succ, List.getElem_cons_zero, Act.put]
        try simp only [List.setIfInBounds_toArray, List.set_cons_zero, List.set_cons_succ]
        clear N0 n0
        refine wpAnyH_ready (rs := [6]) (by kernel_rfl) (by simp) (AllReadyH.cons rfl (fun KK hKK => ?_) AllReadyH.nil)
        refine step_append_s rfl (.tmp 24) (.tmp 29) 92 rfl w.heap.size 30 i0 (.slice none 0 0) 1 24 Try.underlying92 HI.out hz0 hz1 hz2 rfl (by decide) o us.length us rfl N2.row ⟨V0.heap.size, 0, none⟩ 1 1 [.slice a4 q4 c4] rfl rfl (fun j u h => cells_arr_s _ _ _ j u h) (by simp [Value.oneCell']) hml hml2 N2.below.size ?_
        intro v5 W20 hown hgrow
        have n3 := box_grown_s n2 N2.row (by decide) hgrow
        have N3 := N2.grow hgrow hown
        clear hown hgrow
        refine hKK.out _ _ (n3) (fun _ => ?_)
        clear hKK KK
        try dsimp only [List.getElem_toArray, List.getElem_cons_succ, List.getElem_cons_zero, Act.put]
        try simp only [List.setIfInBounds_toArray, List.set_cons_zero, List.set_cons_succ]
        clear N2 n2
        refine wpAnyH_take (i := 11) (v := ?_) rfl (by kernel_rfl) (by kernel_rfl) (by kernel_rfl) (fun _ _ _ h => h) (Or.inl ⟨by kernel_rfl, ?_⟩) (n3) ?_
        rotate_left
        · (intro w0 hSw; (try dsimp only at hSw); have y0 := box_cell_s hSw 0; have y1 := box_cell_s hSw 1; simp only [List.getElem?_toArray, List.getElem?_cons_zero, List.getElem?_cons_succ] at y0 y1; go_simp; try with_reducible rfl)
        try dsimp only [List.getElem_toArray, List.getElem_cons_succ, List.getElem_cons_zero, Act.put]
        try simp only [List.setIfInBounds_toArray, List.set_cons_zero, List.set_cons_succ]
        refine wpAnyH_take (i := 12) (v := ?_) rfl (by kernel_rfl) (by kernel_rfl) (by kernel_rfl) (fun _ _ _ h => h) (Or.inl ⟨by kernel_rfl, ?_⟩) (n3) ?_
        rotate_left
        · (intro w0 hSw; (try dsimp only at hSw); have y0 := box_cell_s hSw 0; have y1 := box_cell_s hSw 1; simp only [List.getElem?_toArray, List.getElem?_cons_zero, List.getElem?_cons_succ] at y0 y1; go_simp; try with_reducible rfl)
        try dsimp only [List.getElem_toArray, List.getElem_cons_succ, List.getElem_cons_zero, Act.put]
        try simp only [List.setIfInBounds_toArray, List.set_cons_zero, List.set_cons_succ]
        refine wpAnyH_done (by kernel_rfl) ?_ _
        try dsimp only [List.getElem_toArray, List.getElem_cons_succ, List.getElem_cons_zero, Act.put]
        try simp only [List.setIfInBounds_toArray, List.set_cons_zero, List.set_cons_succ]
        go_wp2
        go_roundw
        case rel => exact ⟨k + 1, (c : Int) - (mm : Int), _, _, _, by omega, by go_num, rfl, by omega, by simp; omega, HW10.out, HU.out.snoc HW4.out, by unfold Hid; rw [show ((c : Int) - (mm : Int)).toNat = c - mm by omega]; exact HG2.out, N3⟩
        case measure => simp [intOf]; omega
    · obtain rfl : k = L := by omega
      have HE := Lib.hid (HEND.out (.inr rfl))
      clear hlt hk HEND hnk
      go_wp2
      refine bodyPost_ret (v := .tuple #[u6, .slice ar R.length cr]) (by simp [results, Try.results41, go_sem]) rfl ?_
      exact ⟨_, _, rfl, by rw [← HE.out.1]; exact lsts_of HS.out HU.out, by rw [← HE.out.2]; exact HR.out.later HS.out.below, HS.out.below⟩
end Go.Proofs
/- The landed Ints and Nums of layer 13. Conditions: a text of at most a million bytes, as many words at most. -/
namespace Go.Proofs
open Go.RowKit Go.Shelf Go.Cur Go.Wds Go.Sheet Go.Fx
attribute [local go_sem] Oper.semAt_some
/-- A row's box, and the box of what is wrong. -/
structure PiS (w : World) (f : Nat) (v : Value) (W : World) : Prop where
  below : Below w.heap.size w W
  box : W.heap[w.heap.size]? = some (.cells #[.int .i64 (f : Nat), v] 32)
  res : W.heap[w.heap.size + 1]? = some (.cells #[.int .i64 0, .int .i64 0] 41)
theorem PiS.next {w W W' : World} {f : Nat} {v : Value} (h : PiS w f v W) (hb : Below W.heap.size W W') : PiS w f v W' :=
  ⟨h.below.trans (hb.mono h.below.size), (hb.block _ (Array.getElem?_eq_some_iff.1 h.box).1).trans h.box, (hb.block _ (Array.getElem?_eq_some_iff.1 h.res).1).trans h.res⟩
theorem PiS.lt {w W : World} {f : Nat} {v : Value} (h : PiS w f v W) : w.heap.size + 1 < W.heap.size := (Array.getElem?_eq_some_iff.1 h.res).1
theorem PiS.new (w : World) (f : Nat) (v : Value) : PiS w f v ((w.alloc (.cells #[.int .i64 (f : Nat), v] 32)).alloc (.cells #[.int .i64 0, .int .i64 0] 41)) := by
  have e := World.alloc_heap_new (w.alloc (.cells #[.int .i64 (f : Nat), v] 32)) (.cells #[.int .i64 0, .int .i64 0] 41)
  rw [World.size_alloc] at e
  have h1 := fbelow_box_s (w.alloc (.cells #[.int .i64 (f : Nat), v] 32)) (.cells #[.int .i64 0, .int .i64 0] 41)
  exact ⟨(fbelow_box_s w _).trans (h1.mono (by simp)), (h1.block _ (by simp)).trans (World.alloc_heap_new _ _), e⟩
theorem PiS.cells {w W : World} {f : Nat} {v : Value} (h : PiS w f v W) : W.cell? ⟨w.heap.size, 0, none⟩ = some (.int .i64 (f : Nat)) ∧ W.cell? ⟨w.heap.size, 1, none⟩ = some v ∧ W.cell? ⟨w.heap.size + 1, 0, none⟩ = some (.int .i64 0) ∧ W.cell? ⟨w.heap.size + 1, 1, none⟩ = some (.int .i64 0) ∧ W.frozen? ⟨w.heap.size + 1, 0, none⟩ = false ∧ W.frozen? ⟨w.heap.size + 1, 1, none⟩ = false := by
  refine ⟨?_, ?_, ?_, ?_, ?_, ?_⟩
  · unfold World.cell?; rw [h.box]; rfl
  · unfold World.cell?; rw [h.box]; rfl
  · unfold World.cell?; rw [h.res]; rfl
  · unfold World.cell?; rw [h.res]; rfl
  · unfold World.frozen?; rw [h.res]; rfl
  · unfold World.frozen?; rw [h.res]; rfl
/-- A list of one list of words. -/
theorem lsts_one {W : World} {u : Value} {ps : List (Nat × Nat)} (h : HasWdsO W u ps) : HasLsts (W.alloc (.cells #[u] 30)) (.slice (some ⟨W.heap.size, 0, none⟩) 1 1) [ps] := by
  refine ⟨_, 1, rfl, fun i qs hi => ?_⟩
  cases i with
  | zero =>
    obtain rfl : ps = qs := Option.some.inj hi
    exact ⟨W.heap.size, u, rfl, by simp, xcellk2 _ _ _ _, h.later (fbelow_box_s _ _)⟩
  | succ i => simp at hi
set_option maxRecDepth 100000 in
set_option maxHeartbeats 4000000 in
theorem Try.pInts_line (s : ByteArray) (f : Nat) (ws : List (Nat × Nat)) (n : Int) (v : Value) (w : World) (hv : HasWords w v ws) (hne : (ws.length : Int) ≠ n) :
    Calls Try.prog 15 #[.string s, .agg #[.int .i64 (f : Nat), v], .int .i64 n] w fun e w' => e = .returned (.tuple #[.slice none 0 0, .agg #[.int .i64 (f : Nat), .int .i64 3]]) ∧ Below w.heap.size w w' := by
  obtain ⟨av, cv, rfl, _⟩ := hv
  have d : ((ws.length : Int) != n) = true := bne_iff_ne.2 hne
  have HS := PiS.new w f (.slice av ws.length cv)
  generalize ws.length = L at *
  clear hne
  go_enter Try.func15, Try.ntmps15
  go_upto_region 2 with (fail)
  obtain ⟨V, hV⟩ : ∃ V, V = ((w.alloc (.cells #[.int .i64 (f : Nat), .slice av L cv] 32)).alloc (.cells #[.int .i64 0, .int .i64 0] 41)) := ⟨_, rfl⟩
  rw [← hV] at HS ⊢
  clear hV
  obtain ⟨x0, x1, r0, r1, f0, f1⟩ := HS.cells
  have hsz := HS.lt
  have HB := Lib.hid HS.below
  clear HS
  go_region
  go_wp2
  exact bodyPost_ret (v := .tuple #[.slice none 0 0, .agg #[.int .i64 (f : Nat), .int .i64 3]]) (by simp [results, Try.results15, go_sem, r0, r1]) rfl ⟨rfl, below_drew_s ((HB.out.setCell (Nat.le_succ _) _).setCell (Nat.le_succ _) _)⟩
set_option maxRecDepth 100000 in
set_option maxHeartbeats 4000000 in
theorem Try.pInts_calls (s : ByteArray) (f : Nat) (ws : List (Nat × Nat)) (m : Int) (v : Value) (w : World) (hs : s.size ≤ 1000000) (hl : ws.length ≤ 1000000) (hv : HasWords w v ws) (hm : (ws.length : Int) = m) :
    Calls Try.prog 15 #[.string s, .agg #[.int .i64 (f : Nat), v], .int .i64 m] w fun e w' => ∃ u, e = .returned (.tuple #[u, .agg #[.int .i64 ((takeW (rdI s) ws).2.1 : Nat), .int .i64 (takeW (rdI s) ws).2.2]]) ∧ HasInts w' u (takeW (rdI s) ws).1 ∧ Below w.heap.size w w' := by
  have hv1 := hv
  have hl2 := hl
  obtain ⟨av, cv, rfl, _, hc⟩ := hv
  obtain ⟨n, hn⟩ : ∃ n, ws.length = n := ⟨_, rfl⟩
  have hmn : m = (n : Int) := by omega
  subst hmn
  have HWO : Hid (HasWdsO w (.slice av n cv) ws) := by rw [← hn]; exact hv1.wdsO
  rw [hn] at hl hv1 ⊢
  have hne : ((n : Int) != (n : Int)) = false := by simp
  clear hn hm hc
  have HS0 := Lib.hid (PiS.new w f (.slice av n cv))
  have HTI : Hid (∀ W, Below w.heap.size w W → Calls Try.prog 35 #[.string s, .func (.func 36) #[] #[], .slice (some ⟨W.heap.size, 0, none⟩) 1 1] (W.alloc (.cells #[.slice av n cv] 30)) fun e w' => ∃ u, e = .returned (.tuple #[u, .agg #[.int .i64 ((takeW (rdI s) ws).2.1 : Nat), .int .i64 (takeW (rdI s) ws).2.2]]) ∧ w'.ownsRow (W.heap.size + 2) 3 1 u (takeW (rdI s) ws).1.length ((takeW (rdI s) ws).1.map intV) ∧ Below (W.heap.size + 1) (W.alloc (.cells #[.slice av n cv] 30)) w') := fun W hW => by
    have := Try.takeI_calls s [ws] _ _ hs (by simp) (by simp; omega) (lsts_one (HWO.out.later hW))
    simp only [List.flatten_cons, List.flatten_nil, List.append_nil, World.size_alloc] at this
    exact this
  generalize takeW (rdI s) ws = R at *
  obtain ⟨X, a, c⟩ := R
  try simp only at HTI ⊢
  clear hl hl2 HWO hv1
  go_enter Try.func15, Try.ntmps15
  go_upto_region 3 with (fail)
  obtain ⟨V, hV⟩ : ∃ V, V = ((w.alloc (.cells #[.int .i64 (f : Nat), .slice av n cv] 32)).alloc (.cells #[.int .i64 0, .int .i64 0] 41)) := ⟨_, rfl⟩
  rw [← hV] at HS0 ⊢
  clear hV
  obtain ⟨x0, x1, r0, r1, f0, f1⟩ := HS0.out.cells
  have hB := HS0.out.below
  have hsz := HS0.out.lt
  go_wp2_with (go_at_call 35; (with_reducible refine (HTI.out _ hB).mono ?_); rintro e w2 ⟨u, rfl, ho, hb2⟩; go_loud (have HS2 := Lib.hid ((HS0.out.next (fbelow_box_s V (.cells #[.slice av n cv] 30))).next (by rw [World.size_alloc]; exact hb2)); have HO := Lib.hid ho; clear x0 x1 r0 r1 f0 f1 hB hsz ho hb2; obtain ⟨x0, x1, r0, r1, f0, f1⟩ := HS2.out.cells; have hsz := HS2.out.lt; have HB2 := Lib.hid HS2.out.below; have hVs := HS0.out.lt; have HQ := Lib.hid (own_set_s (own_set_s HO.out (a := ⟨w.heap.size + 1, 0, none⟩) (by simp; omega) (.int .i64 (a : Nat))) (a := ⟨w.heap.size + 1, 1, none⟩) (by simp; omega) (.int .i64 c)); obtain ⟨au, cu, rfl⟩ := owns_slice_s HO.out; clear HO hVs))
  refine bodyPost_ret (v := .tuple #[.slice au X.length cu, .agg #[.int .i64 (a : Nat), .int .i64 c]]) (by simp [results, Try.results15, go_sem, r0, r1]) rfl ⟨_, rfl, hasInts_of_owns HQ.out, ?_⟩
  exact (HB2.out.setCell (Nat.le_succ _) _).setCell (Nat.le_succ _) _
set_option maxRecDepth 100000 in
set_option maxHeartbeats 4000000 in
theorem Try.pNums_calls (s : ByteArray) (f : Nat) (ws : List (Nat × Nat)) (sk : Int) (v : Value) (w : World) (hs : s.size ≤ 1000000) (hl : ws.length ≤ 1000000) (hv : HasWords w v ws) :
    Calls Try.prog 17 #[.string s, .agg #[.int .i64 (f : Nat), v], .int .i64 sk] w fun e w' => ∃ u, e = .returned (.tuple #[u, .agg #[.int .i64 ((takeW (rdR s) (ws.drop sk.toNat)).2.1 : Nat), .int .i64 (takeW (rdR s) (ws.drop sk.toNat)).2.2]]) ∧ HasNms w' u (takeW (rdR s) (ws.drop sk.toNat)).1 ∧ Below w.heap.size w w' := by
  have hv1 := hv
  obtain ⟨av, cv, rfl, _, hc⟩ := hv
  obtain ⟨lf, hlf⟩ : ∃ m, min sk.toNat ws.length = m := ⟨_, rfl⟩
  have e0 : ws.drop sk.toNat = ws.drop lf := by
    by_cases h : sk.toNat ≤ ws.length
    · rw [show lf = sk.toNat by omega]
    · rw [List.drop_eq_nil_of_le (by omega), List.drop_eq_nil_of_le (by omega)]
  obtain ⟨D, hD⟩ : ∃ D, ws.drop lf = D := ⟨_, rfl⟩
  rw [e0, hD]
  have hDl : D.length ≤ 1000000 := by rw [← hD, List.length_drop]; omega
  have hlf2 : lf ≤ ws.length := by omega
  have hW2 := wds_sliced hv1 hlf2 (Nat.le_refl _)
  rw [List.take_length, hD] at hW2
  obtain ⟨n, hn⟩ : ∃ n, ws.length = n := ⟨_, rfl⟩
  rw [hn] at hl hW2 hlf2 hlf hc ⊢
  obtain ⟨m0, hm0⟩ : ∃ m : Nat, max sk 0 = (m : Int) := ⟨sk.toNat, by omega⟩
  have hmin : min (m0 : Int) (n : Int) = (lf : Int) := by omega
  obtain ⟨a4, q4, c4, hs4v⟩ : ∃ a q c, sliced av lf n cv 2 = .slice a q c := ⟨_, _, _, rfl⟩
  have hs4 : ∀ W, (Instr.slice 30 (.slice av n cv) (some (.int .i64 (lf : Int))) none none).run Try.prog W = .ok (.slice a4 q4 c4) W := fun W => by
    rw [run_slice_l W 30 av n cv Try.underlying30 .i64 (lf : Int) (by omega) (by omega), ← hs4v]
    rfl
  rw [hs4v] at hW2
  have HWO := Lib.hid hW2
  clear hn hc hlf hlf2 hs4v hW2 e0 hD hv1
  have HS0 := Lib.hid (PiS.new w f (.slice av n cv))
  have HTI : Hid (∀ W, Below w.heap.size w W → Calls Try.prog 38 #[.string s, .func (.func 39) #[] #[], .slice (some ⟨W.heap.size, 0, none⟩) 1 1] (W.alloc (.cells #[.slice a4 q4 c4] 30)) fun e w' => ∃ u, e = .returned (.tuple #[u, .agg #[.int .i64 ((takeW (rdR s) D).2.1 : Nat), .int .i64 (takeW (rdR s) D).2.2]]) ∧ w'.ownsRow (W.heap.size + 2) 58 2 u (takeW (rdR s) D).1.length ((takeW (rdR s) D).1.flatMap nmC) ∧ Below (W.heap.size + 1) (W.alloc (.cells #[.slice a4 q4 c4] 30)) w') := fun W hW => by
    have := Try.takeN_calls s [D] _ _ hs (by simp) (by simp; omega) (lsts_one (HWO.out.later hW))
    simp only [List.flatten_cons, List.flatten_nil, List.append_nil, World.size_alloc] at this
    exact this
  generalize takeW (rdR s) D = R at *
  obtain ⟨X, a, c⟩ := R
  try simp only at HTI ⊢
  clear hl hDl HWO
  go_enter Try.func17, Try.ntmps17
  go_upto_region 1 with (fail)
  obtain ⟨V, hV⟩ : ∃ V, V = ((w.alloc (.cells #[.int .i64 (f : Nat), .slice av n cv] 32)).alloc (.cells #[.int .i64 0, .int .i64 0] 41)) := ⟨_, rfl⟩
  rw [← hV] at HS0 ⊢
  clear hV
  obtain ⟨x0, x1, r0, r1, f0, f1⟩ := HS0.out.cells
  have hB := HS0.out.below
  have hsz := HS0.out.lt
  go_wp2_with (go_at_call 38; (with_reducible refine (HTI.out _ hB).mono ?_); rintro e w2 ⟨u, rfl, ho, hb2⟩; go_loud (have HS2 := Lib.hid ((HS0.out.next (fbelow_box_s V (.cells #[.slice a4 q4 c4] 30))).next (by rw [World.size_alloc]; exact hb2)); have HO := Lib.hid ho; clear x0 x1 r0 r1 f0 f1 hB hsz ho hb2; obtain ⟨x0, x1, r0, r1, f0, f1⟩ := HS2.out.cells; have hsz := HS2.out.lt; have HB2 := Lib.hid HS2.out.below; have hVs := HS0.out.lt; have HQ := Lib.hid (own_set_s (own_set_s HO.out (a := ⟨w.heap.size + 1, 0, none⟩) (by simp; omega) (.int .i64 (a : Nat))) (a := ⟨w.heap.size + 1, 1, none⟩) (by simp; omega) (.int .i64 c)); obtain ⟨au, cu, rfl⟩ := owns_slice_s HO.out; clear HO hVs))
  refine bodyPost_ret (v := .tuple #[.slice au X.length cu, .agg #[.int .i64 (a : Nat), .int .i64 c]]) (by simp [results, Try.results17, go_sem, r0, r1]) rfl ⟨_, rfl, nms_of_owns HQ.out, ?_⟩
  exact (HB2.out.setCell (Nat.le_succ _) _).setCell (Nat.le_succ _) _
end Go.Proofs
/- The landed Flat of layer 13. Conditions: a text of at most a million bytes, as many words and rows at most; a number that an int holds. -/
namespace Go.Proofs
open Go.RowKit Go.Shelf Go.Cur Go.Wds Go.Sheet Go.Fx
attribute [local go_sem] Oper.semAt_some
/-- The box of what is wrong. -/
structure PfS (w : World) (W : World) : Prop where
  below : Below w.heap.size w W
  res : W.heap[w.heap.size]? = some (.cells #[.int .i64 0, .int .i64 0] 41)
theorem PfS.next {w W W' : World} (h : PfS w W) (hb : Below W.heap.size W W') : PfS w W' := ⟨h.below.trans (hb.mono h.below.size), (hb.block _ (Array.getElem?_eq_some_iff.1 h.res).1).trans h.res⟩
theorem PfS.lt {w W : World} (h : PfS w W) : w.heap.size < W.heap.size := (Array.getElem?_eq_some_iff.1 h.res).1
theorem PfS.new (w : World) : PfS w (w.alloc (.cells #[.int .i64 0, .int .i64 0] 41)) := ⟨fbelow_box_s w _, World.alloc_heap_new _ _⟩
theorem PfS.cells {w W : World} (h : PfS w W) : W.cell? ⟨w.heap.size, 0, none⟩ = some (.int .i64 0) ∧ W.cell? ⟨w.heap.size, 1, none⟩ = some (.int .i64 0) ∧ W.frozen? ⟨w.heap.size, 0, none⟩ = false ∧ W.frozen? ⟨w.heap.size, 1, none⟩ = false := by
  refine ⟨?_, ?_, ?_, ?_⟩
  · unfold World.cell?; rw [h.res]; rfl
  · unfold World.cell?; rw [h.res]; rfl
  · unfold World.frozen?; rw [h.res]; rfl
  · unfold World.frozen?; rw [h.res]; rfl
theorem xfreshk2 (W : World) (cs : Array Value) (t : TypeId) (j : Nat) : (W.alloc (.cells cs t)).frozen? ⟨W.heap.size, j, none⟩ = false := by
  unfold World.frozen?
  rw [World.alloc_heap_new]
  rfl
set_option maxRecDepth 100000 in
set_option maxHeartbeats 8000000 in
theorem Try.pFlat_calls (s : ByteArray) (l : List Rw) (n : Int) (v : Value) (w : World) (hs : s.size ≤ 1000000) (hl : l.length ≤ 1000000) (ht : totW l ≤ 2000000) (hn : n ≤ 9223372036854775807) (hv : HasRows w v l) :
    Calls Try.prog 21 #[.string s, v, .int .i64 n] w fun e w' => ∃ u, e = .returned (.tuple #[u, .int .i64 ((flatE s l n.toNat).2.1 : Nat), .agg #[.int .i64 ((flatE s l n.toNat).2.2.1 : Nat), .int .i64 (flatE s l n.toNat).2.2.2]]) ∧ HasInts w' u (flatE s l n.toNat).1 ∧ Below w.heap.size w w' := by
  rw [← progE_flat]
  have HF1 : Hid (Calls Try.prog 41 #[v, .int .i64 n] (w.alloc (.cells #[.int .i64 0, .int .i64 0] 41)) fun e w' => ∃ u r, e = .returned (.tuple #[u, r]) ∧ HasLsts w' u (firstL l n.toNat) ∧ HasWdsO w' r (restL l n.toNat []) ∧ Below (w.alloc (.cells #[.int .i64 0, .int .i64 0] 41)).heap.size (w.alloc (.cells #[.int .i64 0, .int .i64 0] 41)) w') := Try.first_calls l n v _ hl hn (hv.later (fbelow_box_s _ _))
  have HS0 := Lib.hid (PfS.new w)
  have hN : ∀ k : Nat, k < n.toNat ↔ (k : Int) < n := fun k => by omega
  have hfl := Nat.le_trans (firstL_flat l n.toNat) ht
  have hfn := Nat.le_trans (firstL_len l n.toNat) hl
  unfold progE
  generalize n.toNat = N at *
  generalize firstL l N = F at *
  generalize restL l N [] = R at *
  have HTK := Lib.hid fun v W h => Try.takeI_calls s F v W hs hfn hfl h
  generalize takeW (rdI s) F.flatten = T at *
  obtain ⟨X, ta, tc⟩ := T
  simp only at HTK ⊢
  obtain ⟨av, cv, rfl, _⟩ := hv.dat
  generalize l.length = L at *
  clear hv hl ht hs hfl hn
  obtain ⟨fl, hFl⟩ : ∃ n, F.length = n := ⟨_, rfl⟩
  obtain ⟨rl, hRl⟩ : ∃ n, R.length = n := ⟨_, rfl⟩
  obtain ⟨xl, hXl⟩ : ∃ n, X.length = n := ⟨_, rfl⟩
  have HXL := Lib.hid hXl
  have HFL := Lib.hid hFl
  have HRL := Lib.hid hRl
  rw [hXl] at HTK
  clear hfn
  clear hFl hRl hXl
  generalize hE : @ite _ (tc ≠ 0) _ _ _ = E
  have HE0 := Lib.hid hE
  clear hE
  go_enter Try.func21, Try.ntmps21
  go_wp2_with (go_at_call 41; (with_reducible refine HF1.out.mono ?_); rintro e w1 ⟨u, r, rfl, hu, hr, hb1⟩; have HS1 := Lib.hid (HS0.out.next hb1); have HU := Lib.hid hu; have HR := Lib.hid hr; obtain ⟨au, cu, rfl, _⟩ := hu; obtain ⟨ar, cr, rfl, _⟩ := hr; rw [HFL.out] at HU ⊢; rw [HRL.out] at HR ⊢; clear hb1)
  have hT2 := HTK.out _ _ HU.out
  have HT3 := Lib.hid hT2
  clear hT2 HTK HU HF1
  have HST : Hid (∀ W u, Below w1.heap.size w1 W → W.ownsRow (w1.heap.size + 1) 3 1 u xl (X.map intV) → PfS w (W.alloc (.cells #[.int .i64 (ta : Nat), .int .i64 tc] 41)) ∧ HasInts (((W.alloc (.cells #[.int .i64 (ta : Nat), .int .i64 tc] 41)).setCell ⟨w.heap.size, 0, none⟩ (.int .i64 0)).setCell ⟨w.heap.size, 1, none⟩ (.int .i64 0)) u X) := fun W u h1 h2 => by
    have h3 := (HS1.out.next h1).next (fbelow_box_s W (.cells #[.int .i64 (ta : Nat), .int .i64 tc] 41))
    refine ⟨h3, hasInts_of_owns (base := w1.heap.size + 1) (e := 3) ?_⟩
    rw [HXL.out]
    have h4 := HS1.out.lt
    exact own_set_s (own_set_s (ownsRow_below h2 (fbelow_box_s W _) (Nat.le_refl _)) (by simp; omega) _) (by simp; omega) _
  have hE := HE0.out
  clear HE0
  by_cases hc : tc = 0
  · subst hc
    rw [if_neg (by simp)] at hE
    by_cases hx : (xl : Int) < n
    · rw [if_pos ((hN _).2 (by rw [HXL.out]; exact hx))] at hE
      have HE := Lib.hid hE
      clear hE
      go_wp2_with (go_at_call 35; (with_reducible refine HT3.out.mono ?_); rintro e w2 ⟨u, rfl, ho, hb2⟩; go_loud (obtain ⟨hs2, hi2⟩ := HST.out _ _ hb2 ho; have HS2 := Lib.hid hs2; obtain ⟨r0, r1, f0, f1⟩ := hs2.cells; have hsz := hs2.lt; have y0 := xcellk2 w2 #[.int .i64 (ta : Nat), .int .i64 0] 41 0; have y1 := xcellk2 w2 #[.int .i64 (ta : Nat), .int .i64 0] 41 1; obtain ⟨ao, co, rfl⟩ := owns_slice_s ho; clear hi2 hs2 hb2 ho))
      refine bodyPost_ret (v := .tuple #[.slice none 0 0, .int .i64 0, .agg #[.int .i64 (s.size : Nat), .int .i64 4]]) (by simp [results, Try.results21, go_sem, r0, r1]) rfl ⟨.slice none 0 0, by rw [← HE.out]; rfl, by rw [← HE.out]; exact HasInts.nil _, ?_⟩
      exact (HS2.out.below.setCell (Nat.le_refl _) _).setCell (Nat.le_refl _) _
    · rw [if_neg (fun h => hx ((by rw [HXL.out] at *; exact (hN _).1 h)))] at hE
      cases hR2 : R with
      | cons q t =>
        rw [hR2] at hE
        simp only at hE
        have HE := Lib.hid hE
        have hrl : 0 < rl := by rw [← HRL.out, hR2]; simp
        obtain ⟨a1, c1, e1, h1⟩ := HR.out
        rw [HRL.out] at e1
        cases e1
        obtain ⟨g, off, rfl, hg, h3, _⟩ := h1 0 q.1 q.2 (by rw [hR2]; rfl)
        rw [Nat.zero_mul, Nat.add_zero] at h3
        have hri : (0 : Int) < (rl : Int) := by omega
        obtain ⟨q1, q2⟩ := q
        clear hE h1
        go_wp2_with (go_at_call 35; (with_reducible refine HT3.out.mono ?_); rintro e w2 ⟨u, rfl, ho, hb2⟩; go_loud (obtain ⟨hs2, hi2⟩ := HST.out _ _ hb2 ho; have HS2 := Lib.hid hs2; obtain ⟨r0, r1, f0, f1⟩ := hs2.cells; have hsz := hs2.lt; have y0 := xcellk2 w2 #[.int .i64 (ta : Nat), .int .i64 0] 41 0; have y1 := xcellk2 w2 #[.int .i64 (ta : Nat), .int .i64 0] 41 1; have z0 := ((fbelow_box_s w2 (.cells #[.int .i64 (ta : Nat), .int .i64 0] 41)).cell (p := ⟨g, off, none⟩) (Nat.lt_of_lt_of_le hg hb2.size)).trans ((hb2.cell (p := ⟨g, off, none⟩) hg).trans h3); obtain ⟨ao, co, rfl⟩ := owns_slice_s ho; clear hi2 hs2 hb2 ho h3))
        have HB2 := Lib.hid HS2.out.below
        go_region
        go_wp2
        refine bodyPost_ret (v := .tuple #[.slice none 0 0, .int .i64 0, .agg #[.int .i64 (q1 : Nat), .int .i64 3]]) (by simp [results, Try.results21, go_sem, r0, r1]) rfl ⟨.slice none 0 0, by rw [← HE.out]; rfl, by rw [← HE.out]; exact HasInts.nil _, ?_⟩
        exact below_drew_s ((HB2.out.setCell (Nat.le_refl _) _).setCell (Nat.le_refl _) _)
      | nil =>
        rw [hR2] at hE
        simp only at hE
        have HE := Lib.hid hE
        have hrl : rl = 0 := by rw [← HRL.out, hR2]; rfl
        subst hrl
        clear hE
        go_wp2_with (go_at_call 35; (with_reducible refine HT3.out.mono ?_); rintro e w2 ⟨u, rfl, ho, hb2⟩; go_loud (obtain ⟨hs2, hi2⟩ := HST.out _ _ hb2 ho; have HS2 := Lib.hid hs2; have HI2 := Lib.hid hi2; obtain ⟨r0, r1, f0, f1⟩ := hs2.cells; have hsz := hs2.lt; have y0 := xcellk2 w2 #[.int .i64 (ta : Nat), .int .i64 0] 41 0; have y1 := xcellk2 w2 #[.int .i64 (ta : Nat), .int .i64 0] 41 1; obtain ⟨ao, co, rfl⟩ := owns_slice_s ho; clear hi2 hs2 hb2 ho))
        refine bodyPost_ret (v := .tuple #[.slice ao xl co, .int .i64 (fl : Int), .agg #[.int .i64 0, .int .i64 0]]) (by simp [results, Try.results21, go_sem, r0, r1]) rfl ⟨_, by rw [← HE.out, ← HFL.out]; rfl, by rw [← HE.out]; exact HI2.out, ?_⟩
        exact (HS2.out.below.setCell (Nat.le_refl _) _).setCell (Nat.le_refl _) _
  · rw [if_pos hc] at hE
    have HE := Lib.hid hE
    have d : (tc != 0) = true := bne_iff_ne.2 hc
    clear hE hc
    go_wp2_with (go_at_call 35; (with_reducible refine HT3.out.mono ?_); rintro e w2 ⟨u, rfl, ho, hb2⟩; go_loud (obtain ⟨hs2, hi2⟩ := HST.out _ _ hb2 ho; have HS2 := Lib.hid hs2; obtain ⟨r0, r1, f0, f1⟩ := hs2.cells; have hsz := hs2.lt; have y0 := xcellk2 w2 #[.int .i64 (ta : Nat), .int .i64 tc] 41 0; have y1 := xcellk2 w2 #[.int .i64 (ta : Nat), .int .i64 tc] 41 1; obtain ⟨ao, co, rfl⟩ := owns_slice_s ho; clear hi2 hs2 hb2 ho))
    obtain ⟨V, hV⟩ : ∃ V, V = w2.alloc (.cells #[.int .i64 (ta : Nat), .int .i64 tc] 41) := ⟨_, rfl⟩
    rw [← hV] at HS2 r0 r1 f0 f1 hsz y0 y1 ⊢
    clear hV
    have HB2 := Lib.hid HS2.out.below
    obtain ⟨B, hB⟩ : ∃ B, w2.heap.size = B := ⟨_, rfl⟩
    rw [hB] at y0 y1 ⊢
    clear hB
    go_region
    go_wp2
    refine bodyPost_ret (v := .tuple #[.slice none 0 0, .int .i64 0, .agg #[.int .i64 (ta : Nat), .int .i64 tc]]) (by simp [results, Try.results21, go_sem, r0, r1]) rfl ⟨.slice none 0 0, by rw [← HE.out]; rfl, by rw [← HE.out]; exact HasInts.nil _, ?_⟩
    exact below_drew_s ((HB2.out.setCell (Nat.le_refl _) _).setCell (Nat.le_refl _) _)
end Go.Proofs
/- The landed Common of layer 13. Conditions: as many numbers as a million at most, each of which the document tells. -/
namespace Go.Proofs
open Go.RowKit Go.Shelf Go.Cur Go.Wds Go.Sheet Go.Fx
attribute [local go_sem] Oper.semAt_some
set_option maxRecDepth 100000 in
set_option maxHeartbeats 4000000 in
theorem Try.pCommon_calls (l : List (Int × Nat)) (v : Value) (w : World) (hl : l.length ≤ 1000000) (hm : ∀ p ∈ l, mayB p.1 p.2 = true) (hv : HasNms w v l) :
    Calls Try.prog 23 #[v] w fun e w' => ∃ u, e = .returned (.tuple #[u, .int .i64 ((commonE l).2.1 : Nat), .int .i64 (commonE l).2.2]) ∧ HasInts w' u (commonE l).1 ∧ Below w.heap.size w w' := by
  obtain ⟨i0, hio, hz0, hz1, hz2⟩ := info_parts Try.sinfo3
  have HI := Lib.hid hio
  obtain ⟨av, cv, rfl, hw⟩ := hv.dat
  have HW := Lib.hid hw
  have hm6 : ∀ p ∈ l, p.2 ≤ 6 := fun p hp => by have := (mayB_of (hm p hp)).2.1; omega
  have HM6 : Hid (∀ k, maxS (l.take k) ≤ 6) := fun k => maxS_le fun p hp => hm6 p (List.mem_of_mem_take hp)
  have HMT : Hid (∀ k p, l[k]? = some p → maxS (l.take (k + 1)) = max (maxS (l.take k)) p.2) := fun k p => maxS_take
  have HML : Hid (∀ p ∈ l, p.2 ≤ 6) := hm6
  have HTO : Hid (∀ (S : Nat) (p : Int × Nat) (W : World), p ∈ l → Calls Try.prog 42 #[.agg #[.int .i64 p.1, .int .i64 (p.2 : Nat)], .int .i64 (S : Int)] W fun e w' => e = .returned (.tuple #[.int .i64 (rdT S p).1, .int .i64 (rdT S p).2]) ∧ Below W.heap.size W w') := fun S p W hp => by
    have := Try.To_any p.1 (p.2 : Nat) (S : Int) (hm p hp) W
    rw [to_same] at this
    exact this
  have HTA : Hid (l.take l.length = l) := List.take_length
  have HCE : Hid (commonE l = commonS (maxS (l.take l.length)) l) := by unfold Hid; rw [List.take_length]; rfl
  obtain ⟨n, hn⟩ : ∃ n, l.length = n := ⟨_, rfl⟩
  have HN := Lib.hid hn
  rw [hn] at hl HTA HCE ⊢
  clear hw hn hio hm hm6 hv
  generalize commonE l = R at *
  have HB0 := Lib.hid (Below.refl w.heap.size w)
  go_enter Try.func23, Try.ntmps23
  go_wp2
  go_loopw [5, 15] (fun x i wr => ∃ k : Nat, k ≤ n ∧ i = .int .i64 (k : Int) ∧ x = .int .i64 (maxS (l.take k) : Nat) ∧ Below w.heap.size w wr) (fun _ i _ => n - (intOf i).toNat)
  case atStart => exact ⟨0, Nat.zero_le _, rfl, rfl, HB0.out⟩
  case round =>
    obtain ⟨k, hk, rfl, rfl, hBw⟩ := hrel
    clear HB0
    by_cases hlt : k < n
    · obtain ⟨⟨x, y⟩, hp⟩ : ∃ q, l[k]? = some q := ⟨_, List.getElem?_eq_getElem (by have := HN.out; omega)⟩
      have hne : l ≠ [] := fun e => by rw [e] at hp; simp at hp
      obtain ⟨b, off, rfl, hb, h1⟩ := HW.out.resolve_left hne
      obtain ⟨e0, e1⟩ := h1 k _ hp
      replace e0 := (hBw.cell (p := ⟨b, _, none⟩) hb).trans e0
      replace e1 := (hBw.cell (p := ⟨b, _, none⟩) hb).trans e1
      have HBN := Lib.hid (hBw.trans ((fbelow_box_s wr (.cells #[.int .i64 x, .int .i64 (y : Nat)] 58)).mono hBw.size))
      have HT := Lib.hid (HMT.out k _ hp)
      have h6 := HM6.out k
      have h7 := HML.out _ (List.mem_of_getElem? hp)
      simp only at HT h7 e0 e1
      generalize maxS (l.take k) = A at *
      obtain ⟨C, hC⟩ : ∃ C : Nat, max A y = C := ⟨_, rfl⟩
      have hmx : max (A : Int) (y : Int) = (C : Int) := by omega
      rw [hC] at HT
      have hki : (k : Int) < (n : Int) := by omega
      clear hp hne h1 hC
      go_wp2
      go_roundw
      case rel => exact ⟨k + 1, by omega, by go_num, by rw [HT.out], HBN.out⟩
      case measure => simp [intOf]; omega
    · obtain rfl : k = n := by omega
      clear hlt hk
      have HA0 : Hid (CmS wr (.slice none 0 0) [] wr) := ⟨Below.refl _ _, ⟨rfl, .inl ⟨rfl, rfl⟩⟩⟩
      have HBW := Lib.hid hBw
      clear hBw
      have h6 := HM6.out k
      obtain ⟨S, hS⟩ : ∃ S, maxS (l.take k) = S := ⟨_, rfl⟩
      have HBAD : Hid (∀ j w, l[j]? = some w → (∀ v ∈ l.take j, (rdT S v).2 = 0) → (rdT S w).2 ≠ 0 → R = ([], 0, (j : Int))) := fun j w h1 h2 h3 => by rw [HCE.out, hS]; exact commonS_bad h1 h2 h3
      have HALL : Hid ((∀ v ∈ l.take k, (rdT S v).2 = 0) → R = (l.map fun w => (rdT S w).1, S, -1)) := fun h => by rw [HCE.out, hS]; exact commonS_all (by rw [HTA.out] at h; exact h)
      have HOK : Hid (∀ j w, l[j]? = some w → (∀ v ∈ l.take j, (rdT S v).2 = 0) → (rdT S w).2 = 0 → ∀ v ∈ l.take (j + 1), (rdT S v).2 = 0) := fun j w => rdT_ok
      have HTK : Hid (∀ j w, l[j]? = some w → (l.take (j + 1)).map (fun w => (rdT S w).1) = (l.take j).map (fun w => (rdT S w).1) ++ [(rdT S w).1]) := fun j w h => by rw [Go.Wds.take_get h, List.map_append]; rfl
      rw [hS] at h6 ⊢
      clear hS HCE HM6 HMT HML
      obtain ⟨X, rfl⟩ : ∃ Y, Y = wr := ⟨_, rfl⟩
      go_wp2
      go_loopw [8, 26] (fun o i wr => ∃ j : Nat, j ≤ k ∧ i = .int .i64 (j : Int) ∧ Hid (∀ v ∈ l.take j, (rdT S v).2 = 0) ∧ CmS X o ((l.take j).map fun w => (rdT S w).1) wr) (fun _ i _ => k - (intOf i).toNat)
      case atStart => exact ⟨0, Nat.zero_le _, rfl, Lib.hid (fun v hv => by simp at hv), HA0.out⟩
      case round =>
        obtain ⟨j, hj, rfl, hG, hS⟩ := hrel
        have HS := Lib.hid hS
        have hB := HBW.out.trans (hS.below.mono HBW.out.size)
        clear HA0 hS
        by_cases hjk : j < k
        · obtain ⟨⟨x, y⟩, hp⟩ : ∃ q, l[j]? = some q := ⟨_, List.getElem?_eq_getElem (by have := HN.out; omega)⟩
          have hne : l ≠ [] := fun e => by rw [e] at hp; simp at hp
          obtain ⟨b, off, rfl, hb, h1⟩ := HW.out.resolve_left hne
          obtain ⟨e0, e1⟩ := h1 j _ hp
          replace e0 := (hB.cell (p := ⟨b, _, none⟩) hb).trans e0
          replace e1 := (hB.cell (p := ⟨b, _, none⟩) hb).trans e1
          have HSA := Lib.hid (HS.out.next (fbelow_box_s wr (.cells #[.int .i64 x, .int .i64 (y : Nat)] 58)))
          have HX := Lib.hid fun W => HTO.out S (x, y) W (List.mem_of_getElem? hp)
          have hji : (j : Int) < (k : Int) := by omega
          have hlen : ((l.take j).map fun w => (rdT S w).1).length = j := by rw [List.length_map, List.length_take]; have := HN.out; omega
          have HLN := Lib.hid hlen
          by_cases hq : (rdT S (x, y)).2 = 0
          · have HO := Lib.hid (HOK.out j _ hp hG.out hq)
            have HT := Lib.hid (HTK.out j _ hp)
            simp only [hq] at HX
            simp only at e0 e1
            generalize (rdT S (x, y)).1 = z at *
            generalize ((l.take j).map fun w => (rdT S w).1) = Z at *
            have hml : j + 1 ≤ maxLen := by unfold maxLen; omega
            have hml2 : (j + 1) * 8 ≤ 140737488355328 := by omega
            have HGO : Hid (∀ W, CmS X u8 Z W → ((W.alloc (.cells #[.int .i64 z] 3)).ownsRow X.heap.size 3 1 u8 j (Z.map intV)) ∧ X.heap.size ≤ W.heap.size ∧ (∀ v' w5, w5.ownsRow X.heap.size 3 1 v' (j + 1) (Z.map intV ++ [.int .i64 z]) → (W.alloc (.cells #[.int .i64 z] 3)).grownBy w5 u8.ownBlock → CmS X v' (Z ++ [z]) w5)) := fun W h =>
              ⟨by have e := (h.next (fbelow_box_s W (.cells #[.int .i64 z] 3))).row; rw [HLN.out] at e; exact e, h.below.size, fun v' w5 h1 h2 => (h.next (fbelow_box_s W _)).grow h2 (by rw [List.map_append, List.length_append, HLN.out]; exact h1)⟩
            clear hp hlen hq hB hne h1
            go_wp2_with (first
              | (go_at_call 42; (with_reducible refine (HX.out _).mono ?_); rintro e w1 ⟨rfl, hb1⟩; have HS1 := Lib.hid (HSA.out.next hb1); obtain ⟨g1, g2, g3⟩ := HGO.out _ HS1.out; have HG1 := Lib.hid g1; have HG3 := Lib.hid g3; clear hb1 g1 g3)
              | (at_builtin; refine wpList_append_own _ rfl _ _ 38 rfl X.heap.size 3 i0 (.int .i64 0) 1 8 Try.underlying38 HI.out hz0 hz1 hz2 rfl (by decide) u8 j (Z.map intV) rfl HG1.out ⟨w1.heap.size, 0, none⟩ 1 1 [.int .i64 z] rfl rfl (fun j u h => cells_arr_s _ _ _ j u h) (by simp [Value.oneCell']) hml hml2 (by simp; omega) ?_; intro v' w5 hown' hgrow _; have HS7 := Lib.hid (HG3.out v' w5 hown' hgrow); clear hown' hgrow))
            go_roundw
            case rel => exact ⟨j + 1, by omega, by go_num, HO, by rw [HT.out]; exact HS7.out⟩
            case measure => simp [intOf]; omega
          · have HE := Lib.hid (HBAD.out j _ hp hG.out hq)
            have d : ((rdT S (x, y)).2 != 0) = true := bne_iff_ne.2 hq
            simp only at e0 e1
            generalize (rdT S (x, y)).2 = y2 at *
            generalize (rdT S (x, y)).1 = z at *
            clear hp hlen hq hne h1 hB HS
            go_wp2_with (go_at_call 42; (with_reducible refine (HX.out _).mono ?_); rintro e w1 ⟨rfl, hb1⟩; have HS1 := Lib.hid (HSA.out.next hb1); clear hb1)
            refine bodyPost_ret (v := .tuple #[.slice none 0 0, .int .i64 0, .int .i64 (j : Int)]) (by simp [results, Try.results23, go_sem]) rfl ⟨.slice none 0 0, by rw [HE.out]; rfl, by rw [HE.out]; exact HasInts.nil _, HBW.out.trans (HS1.out.below.mono HBW.out.size)⟩
        · obtain rfl : j = k := by omega
          have HE := Lib.hid (HALL.out hG.out)
          have hI : Hid (HasInts wr u8 (l.map fun w => (rdT S w).1)) := by
            have := hasInts_of_owns HS.out.row
            rw [HTA.out] at this
            exact this
          clear hjk hj
          go_wp2
          refine bodyPost_ret (v := .tuple #[u8, .int .i64 (S : Int), .int .i64 (-1)]) (by simp [results, Try.results23, go_sem]) rfl ⟨u8, by rw [HE.out], by rw [HE.out]; exact hI.out, hB⟩
end Go.Proofs
