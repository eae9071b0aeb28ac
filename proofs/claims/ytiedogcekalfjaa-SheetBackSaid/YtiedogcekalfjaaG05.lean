/- The law's its of layer 13: rows as the document's own have them. Conditions: lists of at most two million. -/
import Derived.Test.YtiedogcekalfjaaG04
import Derived.Test.YtiedogcekalfjaaG02
namespace Go.Proofs
open Go.RowKit Go.Shelf Go.Cur Go.Wds Go.Sheet
attribute [local go_sem] Oper.semAt_some
theorem Try.sinfo79 : (Try.prog.info? 79).map (fun i => (i.zero, i.size, i.bytes)) = some (some (.agg #[.int .i64 0, .int .i64 0]), 2, 16) := by kernel_rfl
/-- A row's box, and its words so far. -/
structure InS (W0 : World) (f : Nat) (v : Value) (q : List (Nat × Nat)) (W : World) : Prop where
  below : Below W0.heap.size W0 W
  box : W.heap[W0.heap.size]? = some (.cells #[.int .i64 (f : Nat), v] 36)
  row : W.ownsRow (W0.heap.size + 1) 79 2 v q.length (wordCells q)
theorem InS.cells {W0 W : World} {f : Nat} {v : Value} {q : List (Nat × Nat)} (h : InS W0 f v q W) : W.cell? ⟨W0.heap.size, 0, none⟩ = some (.int .i64 (f : Nat)) ∧ W.cell? ⟨W0.heap.size, 1, none⟩ = some v ∧ W.frozen? ⟨W0.heap.size, 1, none⟩ = false := by
  refine ⟨?_, ?_, ?_⟩
  · unfold World.cell?; rw [h.box]; rfl
  · unfold World.cell?; rw [h.box]; rfl
  · unfold World.frozen?; rw [h.box]; rfl
theorem InS.lt {W0 W : World} {f : Nat} {v : Value} {q : List (Nat × Nat)} (h : InS W0 f v q W) : W0.heap.size + 1 ≤ W.heap.size := (Array.getElem?_eq_some_iff.1 h.box).1
/-- A row behind a block leaves that block. -/
theorem own_behind {W : World} {b : Nat} {e : TypeId} {s n : Nat} {v : Value} {xs : List Value} (h : W.ownsRow (b + 1) e s v n xs) : v.ownBlock ≠ some b := by
  intro hb
  have := (h.lt b hb).1
  omega
theorem InS.add {W0 W V W1 : World} {f : Nat} {v v' : Value} {q : List (Nat × Nat)} {a b : Nat} (h : InS W0 f v q W) (hV : Below W.heap.size W V) (hg : V.grownBy W1 v.ownBlock) (hr : W1.ownsRow (W0.heap.size + 1) 79 2 v' (q.length + 1) (wordCells q ++ [.int .i64 (a : Nat), .int .i64 (b : Nat)])) :
    InS W0 f v' (q ++ [(a, b)]) (W1.setCell ⟨W0.heap.size, 1, none⟩ v') := by
  have hb1 : V.heap[W0.heap.size]? = some (.cells #[.int .i64 (f : Nat), v] 36) := (hV.block _ h.lt).trans h.box
  have hlt := h.lt
  have hsz := hV.size
  have hb2 : W1.heap[W0.heap.size]? = some (.cells #[.int .i64 (f : Nat), v] 36) := (hg.block _ (by omega) (fun e => own_behind h.row e.symm)).trans hb1
  have hw1 : Below W0.heap.size W0 W1 := (h.below.trans (hV.mono (by omega))).grown hg (by omega) (fun k e => by have := (h.row.lt k e).1; omega)
  refine ⟨hw1.setCell (Nat.le_refl _) _, ?_, ?_⟩
  · simp [World.setCell, Array.getElem?_modify, hb2]
  · rw [List.length_append, wordCells_snoc]
    exact hr.kept (row := some W0.heap.size) ⟨rfl, rfl, rfl, by simp [World.setCell], fun k _ hk => Below.heap_setCell _ _ _ _ (fun e => hk (by rw [e]))⟩ (.inr (own_behind hr))
/-- What stands in the loop over the rows. -/
structure ItS (w : World) (o : Value) (us : List (Nat × Value)) (mm : List Rw) (W : World) : Prop where
  below : Below w.heap.size w W
  out : RowsR w.heap.size 36 W o us mm
theorem ItS.next {w W W' : World} {o : Value} {us : List (Nat × Value)} {mm : List Rw} (h : ItS w o us mm W) (hb : Below W.heap.size W W') : ItS w o us mm W' := ⟨h.below.trans (hb.mono h.below.size), h.out.next hb⟩
theorem ItS.grow {w W W' : World} {o o' u : Value} {us : List (Nat × Value)} {mm : List Rw} {p : Rw} (h : ItS w o us mm W) (hu : HasWords W u p.2) (hg : W.grownBy W' o.ownBlock) (hr : W'.ownsRow w.heap.size 36 2 o' (us.length + 1) (us.flatMap rwC ++ rwC (p.1, u))) : ItS w o' (us ++ [(p.1, u)]) (mm ++ [p]) W' :=
  ⟨below_append_s h.below h.below.size h.out.row hg, h.out.grow hu hg hr⟩
theorem wtake {l : List (Nat × Nat)} {k a b : Nat} (h : l[k]? = some (a, b)) : l.take (k + 1) = l.take k ++ [(a, b)] := Go.Wds.take_get h
set_option maxRecDepth 100000 in
set_option maxHeartbeats 4000000 in
theorem Try.sheetIts_calls (v : Value) (l : List Rw) (w : World) (hl : l.length ≤ 2000000) (hp : ∀ p ∈ l, p.2.length ≤ 2000000) (hv : HasRows w v l) :
    Calls Try.prog 12 #[v] w fun e w' => ∃ v', e = .returned v' ∧ HasRows w' v' l ∧ Below w.heap.size w w' := by
  obtain ⟨i0, hio, hz0, hz1, hz2⟩ := info_parts Try.info36
  obtain ⟨i1, hi1, hy0, hy1, hy2⟩ := info_parts Try.sinfo79
  have HI := Lib.hid hio
  have HI1 := Lib.hid hi1
  obtain ⟨a, ca, rfl, hv1⟩ := hv.dat
  have HV := Lib.hid hv1
  have HP := Lib.hid hp
  have HTK : Hid (∀ k p, l[k]? = some p → l.take (k + 1) = l.take k ++ [p]) := fun k p h => Go.Wds.take_get h
  have HTA : Hid (l.take l.length = l) := List.take_length
  obtain ⟨n, hn⟩ : ∃ n, l.length = n := ⟨_, rfl⟩
  have HN := Lib.hid hn
  rw [hn] at hl HTA ⊢
  have HE0 : Hid (ItS w (.slice (some ⟨w.heap.size, 0, none⟩) 0 0) [] (l.take 0) (w.alloc (.cells #[] 36))) := ⟨fbelow_box_s _ _, RowsR.empty w 36⟩
  clear hv hv1 hp hn hio hi1
  go_enter Try.func12, Try.ntmps12
  go_wp2
  go_loopw [3, 4] (fun o i wr => ∃ (k : Nat) (us : List (Nat × Value)), k ≤ n ∧ i = .int .i64 (k : Int) ∧ ItS w o us (l.take k) wr) (fun _ i _ => n - (intOf i).toNat)
  case atStart => exact ⟨0, [], Nat.zero_le _, rfl, HE0.out⟩
  case round =>
    obtain ⟨X, rfl⟩ : ∃ Y, Y = wr := ⟨_, rfl⟩
    obtain ⟨k, us, hk, rfl, hS⟩ := hrel
    have HS := Lib.hid hS
    clear hS HE0
    by_cases hlt : k < n
    · obtain ⟨p, hp⟩ : ∃ p, l[k]? = some p := ⟨_, List.getElem?_eq_getElem (by have := HN.out; omega)⟩
      have hne : l ≠ [] := fun e => by rw [e] at hp; simp at hp
      obtain ⟨g, rfl, hg, h1⟩ := HV.out.resolve_left hne
      obtain ⟨x0', u1, x1', w1⟩ := h1 k p hp
      have HW1 := Lib.hid w1
      obtain ⟨a1, c1, rfl, w2, _⟩ := w1
      have HW2 := Lib.hid w2
      have hpl := HP.out p (List.mem_of_getElem? hp)
      have HTP := Lib.hid (HTK.out k p hp)
      have HKC : Hid (∀ V, Below w.heap.size w V → V.cell? ⟨g, k * 2, none⟩ = some (.int .i64 (p.1 : Nat)) ∧ V.cell? ⟨g, k * 2 + 1, none⟩ = some (.slice a1 p.2.length c1)) := fun V hV => ⟨(hV.cell (p := ⟨g, _, none⟩) hg).trans x0', (hV.cell (p := ⟨g, _, none⟩) hg).trans x1'⟩
      have hki : (k : Int) < (n : Int) := by omega
      have hus : us.length ≤ 2000000 := by
        have := HS.out.out.vals.1
        rw [this, List.length_take]; omega
      have hml : us.length + 1 ≤ maxLen := by unfold maxLen; omega
      have hml2 : (us.length + 1) * 32 ≤ 140737488355328 := by omega
      obtain ⟨x0, x1⟩ := HKC.out _ HS.out.below
      clear hp hne h1 x0' x1' w2 hus
      obtain ⟨f, P⟩ := p
      obtain ⟨m, hm⟩ : ∃ m, P.length = m := ⟨_, rfl⟩
      have HM := Lib.hid hm
      have HPK : Hid (∀ j a b, P[j]? = some (a, b) → P.take (j + 1) = P.take j ++ [(a, b)]) := fun j a b h => wtake h
      have HPA : Hid (P.take m = P) := by unfold Hid; rw [← hm, List.take_length]
      have HIN : Hid (InS X f (.slice none 0 0) (P.take 0) (X.alloc (.cells #[.int .i64 (f : Nat), .slice none 0 0] 36))) := ⟨fbelow_box_s _ _, World.alloc_heap_new _ _, ⟨by simp [wordCells], .inl ⟨rfl, by simp⟩⟩⟩
      clear hm
      simp only at hpl x0 x1 HKC HW1 HW2
      rw [HM.out] at hpl x1 HKC HW1
      go_wp2
      go_loopw [6] (fun i W => ∃ (j : Nat) (v : Value), j ≤ m ∧ i = .int .i64 (j : Int) ∧ InS X f v (P.take j) W) (fun i _ => m - (intOf i).toNat)
      case atStart => exact ⟨0, _, Nat.zero_le _, rfl, HIN.out⟩
      case round =>
        obtain ⟨j, v, hj, rfl, hI⟩ := hrel
        have HI2 := Lib.hid hI
        have hBW := HS.out.below.trans (hI.below.mono HS.out.below.size)
        have HBW := Lib.hid hBW
        obtain ⟨z0, z1⟩ := HKC.out _ hBW
        clear HIN
        by_cases hjm : j < m
        · obtain ⟨⟨a, b⟩, hw⟩ : ∃ q, P[j]? = some q := ⟨_, List.getElem?_eq_getElem (by have := HM.out; omega)⟩
          obtain ⟨gw, rfl, hgw, e0, e1⟩ := HW2.out j a b hw
          replace e0 := (hBW.cell (p := ⟨gw, _, none⟩) hgw).trans e0
          replace e1 := (hBW.cell (p := ⟨gw, _, none⟩) hgw).trans e1
          have HTJ := Lib.hid (HPK.out j a b hw)
          obtain ⟨_, y1, f1⟩ := hI.cells
          have hlt2 := hI.lt
          have row := hI.row
          have hlen : (P.take j).length = j := by rw [List.length_take]; have := HM.out; omega
          rw [hlen] at row
          have HLN := Lib.hid hlen
          have ya : ∀ o, (wr.alloc o).cell? ⟨X.heap.size, 1, none⟩ = some v := fun o => ((fbelow_box_s wr o).cell (p := ⟨X.heap.size, 1, none⟩) (by show X.heap.size < _; omega)).trans y1
          have hml3 : j + 1 ≤ maxLen := by unfold maxLen; omega
          have hml4 : (j + 1) * 16 ≤ 140737488355328 := by omega
          have hji : (j : Int) < (m : Int) := by omega
          have HK : Hid (∀ wr' W1, Below wr.heap.size wr wr' → wr'.grownBy W1 v.ownBlock → W1.cell? ⟨X.heap.size, 1, none⟩ = some v ∧ W1.frozen? ⟨X.heap.size, 1, none⟩ = false) := fun wr' W1 h1 h2 => by
            have e := (h2.block X.heap.size (by have := h1.size; omega) (fun e => own_behind HI2.out.row e.symm)).trans (h1.block _ (by omega))
            exact ⟨(World.cell?_of_block (a := ⟨X.heap.size, 1, none⟩) e).trans y1, (World.frozen?_of_block (a := ⟨X.heap.size, 1, none⟩) e).trans f1⟩
          have hbase : X.heap.size + 1 ≤ wr.heap.size := hlt2
          clear hw hI hBW
          go_wp2
          go_region_law (first
            | (refine step_append_s rfl (.tmp 31) (.tmp 40) 34 rfl (X.heap.size + 1) 79 i1 (.agg #[.int .i64 0, .int .i64 0]) 2 16 Try.underlying34 HI1.out hy0 hy1 hy2 rfl (by decide) v j (wordCells (P.take j)) rfl (by repeat first | exact row | (with_reducible refine owns_drew_s ?_) | (with_reducible refine World.ownsRow.alloc ?_ _)) ⟨wr.heap.size, 0, none⟩ 1 1 [.int .i64 (a : Nat), .int .i64 (b : Nat)] rfl rfl (fun j u h => cells_arr_s _ _ _ j u h) (by simp [Value.oneCell']) hml3 hml4 (by simp; omega) ?_; intro v' w1 hown' hgrow; have HH := HK.out _ _ (by repeat first | exact Below.refl _ _ | (with_reducible refine below_drew_s ?_) | (with_reducible refine Below.alloc ?_ (Nat.le_refl _) _)) hgrow; have HA := Lib.hid (HI2.out.add (a := a) (b := b) (by repeat first | exact Below.refl _ _ | (with_reducible refine below_drew_s ?_) | (with_reducible refine Below.alloc ?_ (Nat.le_refl _) _)) hgrow (by rw [HLN.out]; exact hown')); obtain ⟨y1', f1'⟩ := HH; obtain ⟨g', cap', rfl⟩ := owns_slice_s hown'; clear hown' hgrow))
          all_goals (go_wp2; go_roundw; (case rel => exact ⟨j + 1, _, by omega, by go_num, by rw [HTJ.out]; exact HA.out⟩); (case measure => simp [intOf]; omega))
        · obtain rfl : j = m := by omega
          obtain ⟨y0, y1, _⟩ := hI.cells
          have hrow := hI.row
          rw [HPA.out] at hrow
          have hw3 := hasWords_of_owns hrow
          obtain ⟨av, cv, rfl⟩ := owns_slice_s hrow
          rw [HM.out] at hw3
          have N2 := (HS.out.next hI.below).next (fbelow_box_s wr (.cells #[.int .i64 (f : Nat), .slice av P.length cv] 36))
          have HN2 := Lib.hid N2
          have HW3 := Lib.hid (hw3.later (fbelow_box_s wr (.cells #[.int .i64 (f : Nat), .slice av P.length cv] 36)))
          rw [HM.out] at HN2 HW3 y1
          have hbs : w.heap.size ≤ wr.heap.size := hBW.size
          clear hI hBW hrow hw3 N2 HW2 HKC HI2
          go_wp2_with (at_builtin; refine wpList_append_own _ rfl _ _ 25 rfl w.heap.size 36 i0 (.agg #[.int .i64 0, .slice none 0 0]) 2 32 Try.underlying25 HI.out hz0 hz1 hz2 rfl (by decide) u3 us.length (us.flatMap rwC) rfl HN2.out.out.row ⟨wr.heap.size, 0, none⟩ 1 1 (rwC (f, .slice av j cv)) rfl rfl (fun j u h => cells_arr_s _ _ _ j u h) (by simp [Value.oneCell', rwC]) hml hml2 (by simp; omega) ?_; intro v5 W5 hown hgrow _; have HN3 := Lib.hid (HN2.out.grow (p := (f, P)) HW3.out hgrow hown); obtain ⟨a5, c5, rfl⟩ := owns_slice_s hown; clear hown hgrow)
          go_roundw
          case rel => exact ⟨k + 1, _, by omega, by go_num, by rw [HTP.out]; exact HN3.out⟩
          case measure => simp [intOf]; omega
    · obtain rfl : k = n := by omega
      have hI : Hid (HasRows X u3 l) := by
        have := rows_of HS.out.out
        rw [HTA.out] at this
        exact this
      clear hlt hk
      go_wp2
      go_ret
      exact ⟨u3, rfl, hI.out, HS.out.below⟩
end Go.Proofs
/- The document's own Title of layer 13. Conditions: a text of at most a thousand bytes, as many words at most. -/
namespace Go.Proofs
open Go.RowKit Go.Shelf Go.Cur Go.Wds Go.Sheet
attribute [local go_sem] Oper.semAt_some
/-- A row's struct in its box. -/
structure RbX (w : World) (f : Nat) (v : Value) (W : World) : Prop where
  below : Below w.heap.size w W
  box : W.heap[w.heap.size]? = some (.cells #[.int .i64 (f : Nat), v] 36)
theorem RbX.next {w W W' : World} {f : Nat} {v : Value} (h : RbX w f v W) (hb : Below W.heap.size W W') : RbX w f v W' := ⟨h.below.trans (hb.mono h.below.size), (hb.block _ (Array.getElem?_eq_some_iff.1 h.box).1).trans h.box⟩
theorem RbX.new (w : World) (f : Nat) (v : Value) : RbX w f v (w.alloc (.cells #[.int .i64 (f : Nat), v] 36)) := ⟨fbelow_box_s _ _, World.alloc_heap_new _ _⟩
theorem RbX.cells {w W : World} {f : Nat} {v : Value} (h : RbX w f v W) : W.cell? ⟨w.heap.size, 0, none⟩ = some (.int .i64 (f : Nat)) ∧ W.cell? ⟨w.heap.size, 1, none⟩ = some v := by
  refine ⟨?_, ?_⟩
  · unfold World.cell?; rw [h.box]; rfl
  · unfold World.cell?; rw [h.box]; rfl
theorem titleN_first (s : ByteArray) (ws : List (Nat × Nat)) {w : Nat × Nat} (h : ws[0]? = some w) : titleN s ws 1 = (⟨#[]⟩ : ByteArray) ++ wordT s w := by
  show ((if 0 = 0 then (⟨#[]⟩ : ByteArray) else _) ++ wordT s (ws.getD 0 (0, 0))) = _
  rw [if_pos rfl, List.getD_eq_getElem?_getD, h]; rfl
theorem titleN_more (s : ByteArray) (ws : List (Nat × Nat)) {k : Nat} {w : Nat × Nat} (hk : k ≠ 0) (h : ws[k]? = some w) : titleN s ws (k + 1) = titleN s ws k ++ ⟨#[32]⟩ ++ wordT s w := by
  rw [titleN, if_neg hk, List.getD_eq_getElem?_getD, h]; rfl
set_option maxRecDepth 100000 in
set_option maxHeartbeats 4000000 in
theorem Try.rTitle_calls (s t : ByteArray) (f : Nat) (ws : List (Nat × Nat)) (v : Value) (w : World) (hs : s.size ≤ 1000) (hl : ws.length ≤ 1000) (hv : HasWords w v ws) :
    Calls Try.prog 14 #[.string s, .agg #[.int .i64 (f : Nat), v], .string t] w fun e w' => e = .returned (.bool (titleB s ws t)) ∧ Below w.heap.size w w' := by
  have HV := Lib.hid hv
  obtain ⟨av, cv, rfl, hw, _⟩ := hv
  have HW := Lib.hid hw
  have HTX : Hid (∀ (a b : Nat) (W : World), Calls Try.prog 34 #[.string s, .agg #[.int .i64 (a : Nat), .int .i64 (b : Nat)]] W fun e w' => e = .returned (.string (wordT s (a, b))) ∧ Below W.heap.size W w') := fun a b W => Try.rText_calls s (a : Nat) (b : Nat) W
  have HSZ := Lib.hid fun k => titleN_size s ws hs k
  have HWS := Lib.hid fun w => wordT_size s w
  have HT1 : Hid (∀ w, ws[0]? = some w → titleN s ws 1 = (⟨#[]⟩ : ByteArray) ++ wordT s w) := fun w => titleN_first s ws
  have HT2 : Hid (∀ k w, k ≠ 0 → ws[k]? = some w → titleN s ws (k + 1) = titleN s ws k ++ ⟨#[32]⟩ ++ wordT s w) := fun k w => titleN_more s ws
  have HTB : Hid (titleB s ws t = ((titleN s ws ws.length).toList == t.toList)) := rfl
  obtain ⟨n, hn⟩ : ∃ n, ws.length = n := ⟨_, rfl⟩
  have HN := Lib.hid hn
  rw [hn] at hl HTB ⊢
  generalize titleB s ws t = tb at *
  have HS0 := Lib.hid (RbX.new w f (.slice av n cv))
  clear hw hn
  go_enter Try.func14, Try.ntmps14
  go_wp2
  go_loopw [7, 8] (fun x i wr => ∃ k : Nat, k ≤ n ∧ i = .int .i64 (k : Int) ∧ x = .string (titleN s ws k) ∧ RbX w f (.slice av n cv) wr) (fun _ i _ => n - (intOf i).toNat)
  case atStart => exact ⟨0, Nat.zero_le _, rfl, rfl, HS0.out⟩
  case round =>
    obtain ⟨k, hk, rfl, rfl, hS⟩ := hrel
    have HS := Lib.hid hS
    obtain ⟨y0, y1⟩ := hS.cells
    have hB := hS.below
    clear HS0 hS
    by_cases hlt : k < n
    · obtain ⟨⟨a, b⟩, hp⟩ : ∃ q, ws[k]? = some q := ⟨_, List.getElem?_eq_getElem (by have := HN.out; omega)⟩
      obtain ⟨g, rfl, hg, e0, e1⟩ := HW.out k a b hp
      replace e0 := (hB.cell (p := ⟨g, _, none⟩) hg).trans e0
      replace e1 := (hB.cell (p := ⟨g, _, none⟩) hg).trans e1
      have hki : (k : Int) < (n : Int) := by omega
      have z1 := HSZ.out k
      have z2 := HWS.out (a, b)
      by_cases h0 : k = 0
      · subst h0
        have HE := Lib.hid (HT1.out _ hp)
        have e3 : titleN s ws 0 = ⟨#[]⟩ := rfl
        rw [e3]
        clear hp e3 hB z1 HT2
        have HX := Lib.hid fun W => HTX.out a b W
        generalize wordT s (a, b) = T at *
        go_wp2_with (go_at_call 34; (with_reducible refine (HX.out _).mono ?_); rintro e w1 ⟨rfl, hb1⟩; have HS1 := Lib.hid (HS.out.next hb1); clear hb1)
        go_roundw
        case rel => exact ⟨1, by omega, by go_num, by rw [HE.out], HS1.out⟩
        case measure => simp [intOf]; omega
      · have HE := Lib.hid (HT2.out k _ h0 hp)
        have hk0 : (0 : Int) < (k : Int) := by omega
        clear hp hB h0
        have HX := Lib.hid fun W => HTX.out a b W
        generalize wordT s (a, b) = T at *
        generalize titleN s ws k = Z at *
        have z3 : ¬ 9223372036854775807 < Z.size + 1 := by omega
        have z4 : ¬ 9223372036854775807 < Z.size + 1 + T.size := by omega
        go_wp2_with (go_at_call 34; (with_reducible refine (HX.out _).mono ?_); rintro e w1 ⟨rfl, hb1⟩; have HS1 := Lib.hid (HS.out.next hb1); clear hb1)
        go_roundw
        case rel => exact ⟨k + 1, by omega, by go_num, by rw [HE.out], HS1.out⟩
        case measure => simp [intOf]; omega
    · obtain rfl : k = n := by omega
      clear hlt hk
      go_wp2
      go_ret
      exact ⟨cret_is HTB.out.symm, hB⟩
end Go.Proofs
/- The document's digits. Conditions: a text that a string can be; at most 12 digits. -/
namespace Go.Fx
/-- The document's digits: the number, and whether they are one to so many. -/
def digR (l : List UInt8) (most : Nat) : Int × Bool := if 1 ≤ l.length ∧ l.length ≤ most ∧ l.all dg = true then (valF 0 l, true) else (0, false)
theorem dg_not {c : UInt8} (h : dg c = false) : (c.toNat : Int) < 48 ∨ 57 < (c.toNat : Int) := by
  simp [dg, digB] at h; omega
end Go.Fx
namespace Go.Proofs
open Go.RowKit Go.Fx
attribute [local go_sem] Oper.semAt_some

theorem ret_dig {a : Int} {b : Bool} {x : Int × Bool} (h : x = (a, b)) : Ending.returned (.tuple #[.int .i64 a, .bool b]) = .returned (.tuple #[.int .i64 x.1, .bool x.2]) := by rw [h]
theorem all_of_take {l : List UInt8} {j : Nat} (h : ∀ c ∈ l.take j, dg c = true) (hj : l.length ≤ j) : l.all dg = true := by
  rw [List.take_of_length_le hj] at h
  exact List.all_eq_true.2 h
theorem fxall_not {l : List UInt8} {j : Nat} {c : UInt8} (h : l[j]? = some c) (hd : dg c = false) : ¬ l.all dg = true := fun e => by
  rw [List.all_eq_true] at e
  have := e c (List.mem_of_getElem? h)
  rw [hd] at this; cases this

set_option maxHeartbeats 400000 in
theorem Try.rdigits_len (s : ByteArray) (most : Nat) (hs : s.size ≤ 9223372036854775807) (hl : ¬ (1 ≤ s.size ∧ s.size ≤ most)) (w : World) :
    Calls Try.prog 63 #[.string s, .int .i64 (most : Int)] w fun e w' => e = .returned (.tuple #[.int .i64 (digR s.data.toList most).1, .bool (digR s.data.toList most).2]) ∧ w = w' := by
  have HR : Hid (digR s.data.toList most = (0, false)) := by unfold Hid digR; rw [if_neg (by rw [Array.length_toList]; exact fun h => hl ⟨h.1, h.2.1⟩)]
  by_cases h1 : s.size < 1
  · clear hl
    go_enter Try.func63, Try.ntmps63
    go_wp2
    go_ret2
    exact ⟨ret_dig HR.out, rfl⟩
  · have h2 : most < s.size := by omega
    clear hl
    go_enter Try.func63, Try.ntmps63
    go_wp2
    go_ret2
    exact ⟨ret_dig HR.out, rfl⟩
set_option maxHeartbeats 400000 in
theorem Try.rdigits_in (s : ByteArray) (most : Nat) (hm : most ≤ 12) (h1 : 1 ≤ s.size) (h2 : s.size ≤ most) (w : World) :
    Calls Try.prog 63 #[.string s, .int .i64 (most : Int)] w fun e w' => e = .returned (.tuple #[.int .i64 (digR s.data.toList most).1, .bool (digR s.data.toList most).2]) ∧ w = w' := by
  have hb1 : decide ((s.size : Int) < 1) = false := decide_eq_false (by omega)
  have hb2 : decide (s.size < 1) = false := decide_eq_false (by omega)
  have hb3 : decide (most < s.size) = false := decide_eq_false (by omega)
  go_enter Try.func63, Try.ntmps63
  go_wp2
  go_outline
  go_loop [4, 5, 6, 7] (fun _ _ v i => ∃ (j : Nat) (n : Int), j ≤ s.size ∧ i = .int .i64 (j : Int) ∧ v = .int .i64 n ∧ Hid (n = valF 0 (s.data.toList.take j) ∧ ∀ c ∈ s.data.toList.take j, dg c = true)) (fun _ _ _ i => s.size - (intOf i).toNat)
  case atStart => exact ⟨0, 0, Nat.zero_le _, rfl, rfl, ⟨by simp [valF], by simp⟩⟩
  case round =>
    obtain ⟨j, n, hj, rfl, rfl, HN⟩ := hrel
    have hnb := valF_bd (a := 0) 0 (by omega) (by decide) (s.data.toList.take j) HN.out.2
    rw [← HN.out.1] at hnb
    have hnq : n ≤ 999999999999 := by
      have e1 : (s.data.toList.take j).length ≤ j := List.length_take_le _ _
      have e2 : 10 ^ (0 + (s.data.toList.take j).length) ≤ 10 ^ 12 := Nat.pow_le_pow_right (by omega) (by omega)
      omega
    have hn0 := hnb.1
    clear hnb
    by_cases hlt : j < s.size
    · have hget : s.data.toList[j]? = some s[j] := by
        have h' : j < s.data.toList.length := by simpa using hlt
        rw [List.getElem?_eq_getElem h']; rfl
      by_cases hd : dg s[j] = true
      · have hd2 := dg_bd hd
        have HX : Hid (10 * n + ((s[j].toNat : Int) - 48) = valF 0 (s.data.toList.take (j + 1)) ∧ ∀ c ∈ s.data.toList.take (j + 1), dg c = true) := by
          have HS := take_snoc hget
          refine ⟨by rw [HS, valF_snoc, ← HN.out.1], ?_⟩
          rw [HS]
          intro c hc'
          rcases List.mem_append.1 hc' with h | h
          · exact HN.out.2 c h
          · rw [List.mem_singleton.1 h]; exact hd
        clear hd hget
        go_wp2
        go_round
        case rel => exact ⟨j + 1, 10 * n + ((s[j].toNat : Int) - 48), by omega, by go_num, by go_num, HX⟩
        case measure => simp [intOf]; omega
      · simp only [Bool.not_eq_true] at hd
        have hd2 := dg_not hd
        have HR : Hid (digR s.data.toList most = (0, false)) := by unfold Hid digR; rw [if_neg (fun h => fxall_not hget hd h.2.2)]
        clear hd hget
        rcases hd2 with hd2 | hd2
        · go_wp2
          go_ret2
          exact ⟨ret_dig HR.out, rfl⟩
        · go_wp2
          go_ret2
          exact ⟨ret_dig HR.out, rfl⟩
    · have hge : s.size ≤ j := by omega
      have HR : Hid (digR s.data.toList most = (n, true)) := by
        unfold Hid digR
        have hl : s.data.toList.length ≤ j := by rw [Array.length_toList]; exact hge
        rw [if_pos ⟨by rw [Array.length_toList]; exact h1, by rw [Array.length_toList]; exact h2, all_of_take HN.out.2 hl⟩, HN.out.1, List.take_of_length_le hl]
      go_wp2
      go_ret2
      exact ⟨ret_dig HR.out, rfl⟩
theorem Try.rdigits_any (s : ByteArray) (most : Nat) (hm : most ≤ 12) (hs : s.size ≤ 9223372036854775807) (w : World) :
    Calls Try.prog 63 #[.string s, .int .i64 (most : Int)] w fun e w' => e = .returned (.tuple #[.int .i64 (digR s.data.toList most).1, .bool (digR s.data.toList most).2]) ∧ w = w' := by
  by_cases h : 1 ≤ s.size ∧ s.size ≤ most
  · exact Try.rdigits_in s most hm h.1 h.2 w
  · exact Try.rdigits_len s most hs h w
#print axioms Try.rdigits_any
end Go.Proofs
/- The document's Int. Conditions: a text that a string can be. -/
namespace Go.Fx
/-- The document's Int of a text without its sign, with sign g. -/
def intT (g : Int) (d : Int × Bool) : Int × Int := if d.2 = true then (if 100000000 < d.1 then (0, 2) else (g * d.1, 0)) else (0, 20)
def intR (l : List UInt8) : Int × Int := intT (sgn l) (digR (tailIf 45 l) 12)
theorem digR_bd (l : List UInt8) {k : Nat} : 0 ≤ (digR l k).1 ∧ (digR l k).1 < ((10 ^ k : Nat) : Int) := by
  unfold digR
  split
  · rename_i h
    have := valF_bd (a := 0) 0 (by omega) (by decide) l (List.all_eq_true.1 h.2.2)
    have e : 10 ^ (0 + l.length) ≤ 10 ^ k := Nat.pow_le_pow_right (by omega) (by omega)
    simp only
    omega
  · have : 0 < 10 ^ k := Nat.pow_pos (by omega)
    simp only
    omega
end Go.Fx
namespace Go.Proofs
open Go.RowKit Go.Fx
attribute [local go_sem] Oper.semAt_some

theorem head_some (s : ByteArray) (h0 : 0 < s.size) : ∃ r, s.data.toList = s[0] :: r ∧ (s.extract 1 s.size).data.toList = r := by
  have hl : 0 < s.data.toList.length := by rw [Array.length_toList]; exact h0
  refine ⟨s.data.toList.drop 1, ?_, ?_⟩
  · have := List.drop_eq_getElem_cons hl
    rw [List.drop_zero] at this
    exact this
  · rw [Lib.extract_data]
    simp [List.take_of_length_le]
theorem head_minus (s : ByteArray) (h0 : 0 < s.size) (hm : s[0] = 45) : sgn s.data.toList = -1 ∧ tailIf 45 s.data.toList = (s.extract 1 s.size).data.toList := by
  obtain ⟨r, h1, h2⟩ := head_some s h0
  rw [h1, h2, hm]
  exact ⟨rfl, rfl⟩
theorem head_other (s : ByteArray) (h0 : 0 < s.size) (hm : s[0] ≠ 45) : sgn s.data.toList = 1 ∧ tailIf 45 s.data.toList = s.data.toList := by
  obtain ⟨r, h1, h2⟩ := head_some s h0
  have : headB 45 s.data.toList = false := by rw [h1]; simp [headB, hm]
  unfold sgn tailIf
  rw [this]
  exact ⟨rfl, rfl⟩
theorem fxnot_empty (s : ByteArray) (h0 : 0 < s.size) : s.toList.isEmpty = false := by
  rw [Lib.toList_data]
  cases h : s.data.toList with
  | nil => have : s.data.toList.length = s.size := Array.length_toList; rw [h] at this; simp at this; omega
  | cons a r => rfl
/-- What the document's digits tell of a text. -/
def Dgs (s : ByteArray) (k : Nat) (n : Int) (b : Bool) : Prop := ∀ W, Calls Try.prog 63 #[.string s, .int .i64 (k : Int)] W fun e w' => e = .returned (.tuple #[.int .i64 n, .bool b]) ∧ W = w'
theorem dgs_of (s : ByteArray) (k : Nat) (hk : k ≤ 12) (hs : s.size ≤ 9223372036854775807) {n : Int} {b : Bool} (h : digR s.data.toList k = (n, b)) : Dgs s k n b := fun W => by
  have := Try.rdigits_any s k hk hs W
  rwa [h] at this

set_option maxHeartbeats 400000 in
theorem Try.rInt_minus (s : ByteArray) (h0 : 0 < s.size) (hm : s[0] = 45) (n : Int) (b : Bool) (hn0 : 0 ≤ n) (hn1 : n ≤ 1000000000000) (hd : Dgs (s.extract 1 s.size) 12 n b) (w : World) :
    Calls Try.prog 37 #[.string s] w fun e w' => e = .returned (.tuple #[.int .i64 (intT (-1) (n, b)).1, .int .i64 (intT (-1) (n, b)).2]) ∧ w = w' := by
  have h1 := fxnot_empty s h0
  have h2 : ((s[0].toNat : Int) == 45) = true := by rw [hm]; rfl
  have HD := Lib.hid hd
  clear hm hd
  cases b with
  | false =>
    have HT : Hid (intT (-1) (n, false) = (0, 20)) := rfl
    go_enter Try.func37, Try.ntmps37
    go_wp2_with (go_at_call 63; refine (HD.out _).mono ?_; rintro e w' ⟨rfl, rfl⟩)
    go_ret2
    exact ⟨ret_two HT.out, rfl⟩
  | true =>
    by_cases hg : 100000000 < n
    · have HT : Hid (intT (-1) (n, true) = (0, 2)) := by unfold Hid intT; simp [hg]
      go_enter Try.func37, Try.ntmps37
      go_wp2_with (go_at_call 63; refine (HD.out _).mono ?_; rintro e w' ⟨rfl, rfl⟩)
      go_ret2
      exact ⟨ret_two HT.out, rfl⟩
    · have HT : Hid (intT (-1) (n, true) = (-n, 0)) := by unfold Hid intT; simp [hg]
      go_enter Try.func37, Try.ntmps37
      go_wp2_with (go_at_call 63; refine (HD.out _).mono ?_; rintro e w' ⟨rfl, rfl⟩)
      go_ret2
      exact ⟨ret_two HT.out, rfl⟩

set_option maxHeartbeats 400000 in
theorem Try.rInt_other (s : ByteArray) (h0 : 0 < s.size) (hm : s[0] ≠ 45) (n : Int) (b : Bool) (hn0 : 0 ≤ n) (hn1 : n ≤ 1000000000000) (hd : Dgs s 12 n b) (w : World) :
    Calls Try.prog 37 #[.string s] w fun e w' => e = .returned (.tuple #[.int .i64 (intT 1 (n, b)).1, .int .i64 (intT 1 (n, b)).2]) ∧ w = w' := by
  have h1 := fxnot_empty s h0
  have h2 : ((s[0].toNat : Int) == 45) = false := by
    apply beq_eq_false_iff_ne.2
    intro e
    exact hm (UInt8.toNat_inj.1 (by show s[0].toNat = 45; omega))
  have HD := Lib.hid hd
  clear hm hd
  cases b with
  | false =>
    have HT : Hid (intT 1 (n, false) = (0, 20)) := rfl
    go_enter Try.func37, Try.ntmps37
    go_wp2_with (go_at_call 63; refine (HD.out _).mono ?_; rintro e w' ⟨rfl, rfl⟩)
    go_ret2
    exact ⟨ret_two HT.out, rfl⟩
  | true =>
    by_cases hg : 100000000 < n
    · have HT : Hid (intT 1 (n, true) = (0, 2)) := by unfold Hid intT; simp [hg]
      go_enter Try.func37, Try.ntmps37
      go_wp2_with (go_at_call 63; refine (HD.out _).mono ?_; rintro e w' ⟨rfl, rfl⟩)
      go_ret2
      exact ⟨ret_two HT.out, rfl⟩
    · have HT : Hid (intT 1 (n, true) = (n, 0)) := by unfold Hid intT; simp [hg]
      go_enter Try.func37, Try.ntmps37
      go_wp2_with (go_at_call 63; refine (HD.out _).mono ?_; rintro e w' ⟨rfl, rfl⟩)
      go_ret2
      exact ⟨ret_two HT.out, rfl⟩

theorem Try.rInt_empty (w : World) :
    Calls Try.prog 37 #[.string ⟨#[]⟩] w fun e w' => e = .returned (.tuple #[.int .i64 0, .int .i64 20]) ∧ w = w' := by
  have HD : Hid (Dgs ⟨#[]⟩ 12 0 false) := dgs_of ⟨#[]⟩ 12 (by omega) (by decide) rfl
  go_enter Try.func37, Try.ntmps37
  go_wp2_with (go_at_call 63; refine (HD.out _).mono ?_; rintro e w' ⟨rfl, rfl⟩)
  go_ret2
  exact ⟨rfl, rfl⟩
theorem Try.rInt_any (s : ByteArray) (hs : s.size ≤ 9223372036854775807) (w : World) :
    Calls Try.prog 37 #[.string s] w fun e w' => e = .returned (.tuple #[.int .i64 (intR s.data.toList).1, .int .i64 (intR s.data.toList).2]) ∧ w = w' := by
  by_cases h0 : 0 < s.size
  · unfold intR
    by_cases hm : s[0] = 45
    · obtain ⟨e1, e2⟩ := head_minus s h0 hm
      rw [e1, e2]
      have hb := digR_bd (s.extract 1 s.size).data.toList (k := 12)
      have hsz : (s.extract 1 s.size).size ≤ 9223372036854775807 := by rw [ByteArray.size_extract]; omega
      exact Try.rInt_minus s h0 hm _ _ hb.1 (by have := hb.2; simp only [Nat.reducePow] at this; omega) (dgs_of _ 12 (by omega) hsz rfl) w
    · obtain ⟨e1, e2⟩ := head_other s h0 hm
      rw [e1, e2]
      have hb := digR_bd s.data.toList (k := 12)
      exact Try.rInt_other s h0 hm _ _ hb.1 (by have := hb.2; simp only [Nat.reducePow] at this; omega) (dgs_of _ 12 (by omega) hs rfl) w
  · have hz : s = ⟨#[]⟩ := by
      apply ByteArray.ext
      have h1 : s.data.size = 0 := by show s.size = 0; omega
      exact Array.eq_empty_of_size_eq_zero h1
    subst hz
    exact Try.rInt_empty w
#print axioms Try.rInt_any
end Go.Proofs
