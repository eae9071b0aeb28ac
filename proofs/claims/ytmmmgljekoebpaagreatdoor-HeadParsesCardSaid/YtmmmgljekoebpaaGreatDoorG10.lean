/- The landed head's take: a row is put to what was taken. Conditions: a text of at most two million bytes; the tables of keywords hold what the card lays; the map is one that the call made. -/
import Derived.Test.YtmmmgljekoebpaaGreatDoorG09
import Derived.Test.YtmmmgljekoebpaaGreatDoorG06
import Derived.Test.YtmmmgljekoebpaaGreatDoorG04
namespace Go.Hdr
open Go.Wds Go.AnyMap
theorem textI_size (s : ByteArray) (a b : Int) : (textI s a b).size ≤ s.size := by
  unfold textI
  split
  · rw [ByteArray.size_extract]; omega
  · exact Nat.zero_le _
/-- What a row that there is does to a map: what is wrong, and the map then. -/
def takeR (a i : Nat) (f : ByteArray → Option Value) (K : ByteArray) (t : Bool) (r : Value × Int) : (Nat × Int) × (ByteArray → Option Value) :=
  if t = false then ((a, 3), f)
  else if skipB K = true then ((0, 0), f)
  else if (f K).isSome = true ∨ r.2 = 140 then ((a, 140), f)
  else if r.2 ≠ 0 then ((i, r.2), f)
  else ((0, 0), put f K r.1)
end Go.Hdr
namespace Go.Proofs
open Go.RowKit Go.Shelf Go.Hdr Go.AnyMap Go.Wds Go.Cur
attribute [local go_sem] Oper.semAt_some
set_option linter.unusedVariables false
theorem read_codes (K v : ByteArray) : (readE K v).2 = 140 ∨ (readE K v).2 = 141 ∨ (readE K v).2 = 0 := by
  by_cases h : hplaceE K < 0
  · left; rw [read_none h]
  · right
    unfold readE
    rw [if_neg h]
    cases (putE hd0 (hplaceE K) v).2
    · left; rfl
    · right; rfl
theorem two_cells {W : World} {B : Nat} {x y : Value} {t : TypeId} (h : W.heap[B]? = some (.cells #[x, y] t)) : W.cell? ⟨B, 0, none⟩ = some x ∧ W.cell? ⟨B, 1, none⟩ = some y := ⟨(hbox_cell h 0).1, (hbox_cell h 1).1⟩
theorem three_cells {W : World} {B : Nat} {x y z : Value} {t : TypeId} (h : W.heap[B]? = some (.cells #[x, y, z] t)) : W.cell? ⟨B, 0, none⟩ = some x ∧ W.cell? ⟨B, 1, none⟩ = some y ∧ W.cell? ⟨B, 2, none⟩ = some z := ⟨(hbox_cell h 0).1, (hbox_cell h 1).1, (hbox_cell h 2).1⟩
theorem but_of_below {B N : Nat} {w W : World} (h : Below N w W) (hN : w.heap.size ≤ N) : But B w W := ⟨h.os, h.tape, h.output, h.size, fun k hk _ => h.block k (Nat.lt_of_lt_of_le hk hN)⟩
theorem but_of_grown {B : Nat} {w W : World} (h : w.grownBy W (some B)) : But B w W := ⟨h.os, h.tape, h.output, h.size, fun k hk hn => h.block k hk (fun e => hn (by cases e; rfl))⟩
/-- What take has when it comes back. -/
structure TkPost (P : Program) (w : World) (B n : Nat) (r : (Nat × Int) × (ByteArray → Option Value)) (e : Ending) (w' : World) : Prop where
  end_ : e = .returned (.agg #[.int .i64 (r.1.1 : Nat), .int .i64 r.1.2])
  map : HasMap P 9 w' B (n + 1) r.2
  but : But B w w'
theorem pair_cells {W : World} {B : Nat} {x0 x1 v0 v1 : Value} {t : TypeId} (h : W.heap[B]? = some (.cells #[x0, x1] t)) :
    ((W.setCell ⟨B, 0, none⟩ v0).setCell ⟨B, 1, none⟩ v1).cell? ⟨B, 0, none⟩ = some v0 ∧ ((W.setCell ⟨B, 0, none⟩ v0).setCell ⟨B, 1, none⟩ v1).cell? ⟨B, 1, none⟩ = some v1 := two_cells (pair_own_h h)
theorem map_grow {P : Program} {k : TypeId} {W : World} {b n : Nat} {f : ByteArray → Option Value} (h : HasMap P k W b n f) : HasMap P k W b (n + 1) f := h.mono (Nat.le_succ _)
theorem tk_end {P : Program} {w W : World} {B n D : Nat} {f : ByteArray → Option Value} {x : Nat} {y : Int} {u v : Value} (hb : Below w.heap.size w W) (hD : w.heap.size ≤ D) (hm : HasMap P 9 W B n f) (hlt : B < w.heap.size) :
    TkPost P w B n ((x, y), f) (.returned (.agg #[.int .i64 (x : Nat), .int .i64 y])) ((W.setCell ⟨D, 0, none⟩ u).setCell ⟨D, 1, none⟩ v) := by
  have h1 : But B w W := but_of_below hb (Nat.le_refl _)
  have hne : ∀ W' : World, ∀ j z, (W'.setCell ⟨D, j, none⟩ z).heap[B]? = W'.heap[B]? := fun W' j z => Below.heap_setCell _ _ _ _ (by show B ≠ D; omega)
  exact ⟨rfl, map_grow (hm.same ((hne _ _ _).trans (hne _ _ _))), (h1.new (p := ⟨D, 0, none⟩) hD _).new (p := ⟨D, 1, none⟩) hD _⟩
theorem tk_end2 {P : Program} {w W : World} {B n D : Nat} {f : ByteArray → Option Value} {x : Nat} {y : Int} {u v : Value} (h1 : But B w W) (hD : w.heap.size ≤ D) (hlt : B < w.heap.size) (hm : HasMap P 9 W B (n + 1) f) :
    TkPost P w B n ((x, y), f) (.returned (.agg #[.int .i64 (x : Nat), .int .i64 y])) ((W.setCell ⟨D, 0, none⟩ u).setCell ⟨D, 1, none⟩ v) := by
  have hne : ∀ W' : World, ∀ j z, (W'.setCell ⟨D, j, none⟩ z).heap[B]? = W'.heap[B]? := fun W' j z => Below.heap_setCell _ _ _ _ (by show B ≠ D; omega)
  exact ⟨rfl, hm.same ((hne _ _ _).trans (hne _ _ _)), (h1.new (p := ⟨D, 0, none⟩) hD _).new (p := ⟨D, 1, none⟩) hD _⟩
set_option maxRecDepth 100000 in
set_option maxHeartbeats 8000000 in
theorem Tryz.htake_calls (s : ByteArray) (a b c : Nat) (w : World) (B n : Nat) (f : ByteArray → Option Value) (h : HasMap Tryz.prog 9 w B n f) (hn : n ≤ 1000001) (hs : s.size ≤ 2000000) (hab : a ≤ b) (hb : b ≤ s.size) (hK : KeyTab w) (hL : LayTab w) :
    Calls Tryz.prog 10 #[.string s, .agg #[.int .i64 (a : Nat), .int .i64 (b : Nat), .int .i64 (c : Nat)], .map (some B)] w (TkPost Tryz.prog w B n (takeR a (keyE s a b).2.1.1 f (keyE s a b).1 (keyE s a b).2.2 (readE (keyE s a b).1 (textI s (keyE s a b).2.1.1 (keyE s a b).2.1.2)))) := by
  have RK := fun w => Tryz.Key_calls s (a : Int) (b : Int) _ _ _ _ w hs (keyE_is s a b hab hb)
  have HZ := keyE_size s a b
  generalize keyE s a b = q at *
  obtain ⟨K, ⟨i, j⟩, t⟩ := q
  dsimp only at RK HZ ⊢
  unfold keyV at RK
  have RT := fun w => Tryz.Text_calls s (i : Int) (j : Int) w
  have HT := textI_size s (i : Int) (j : Int)
  generalize textI s (i : Int) (j : Int) = v at *
  have RR := fun w hk hl => Tryz.hread_calls K v w (by omega) hk hl
  have TK := Lib.hid fun W (h : Below w.heap.size w W) => hK.below h
  have TL := Lib.hid fun W (h : Below w.heap.size w W) => hL.below h
  have TM := Lib.hid fun W (hb : Below w.heap.size w W) => h.below h.lt hb
  have hlt := h.lt
  have RS := fun w => Tryz.skipped_calls K w
  have HV : takeR a i f K t (readE K v) = takeR a i f K t (readE K v) := rfl
  generalize hr : takeR a i f K t (readE K v) = r at HV ⊢
  clear HV
  have he : (readE K v).2 = 140 ∨ (readE K v).2 = 141 ∨ (readE K v).2 = 0 := read_codes K v
  generalize readE K v = z at *
  obtain ⟨val, e⟩ := z
  dsimp only at RR he
  unfold takeR at hr
  dsimp only at hr
  clear hK hL h HT
  have HRK := Lib.hid RK
  have HRT := Lib.hid RT
  have HRR := Lib.hid RR
  have HRS := Lib.hid RS
  clear RK RT RR RS
  cases t
  · rw [if_pos rfl] at hr
    subst hr
    go_enter Tryz.func10, Tryz.ntmps10
    go_wp2_with (first
      | (go_at_call 28; (with_reducible refine (HRK.out _).mono ?_); rintro e w1 ⟨rfl, hw1⟩; have B0 := Lib.hid (hstep (below_two_n w (.cells #[.int .i64 (a : Nat), .int .i64 (b : Nat), .int .i64 (c : Nat)] 41) (.cells #[.int .i64 0, .int .i64 0] 27)) hw1); have R1 := hbox_next (hbox_next (hbox_one w (.cells #[.int .i64 (a : Nat), .int .i64 (b : Nat), .int .i64 (c : Nat)] 41) (.cells #[.int .i64 0, .int .i64 0] 27)) hw1) (below_one_h w1 (.cells #[.int .i64 (i : Nat), .int .i64 (j : Nat)] 62)); have D1 := hbox_next (hbox_next (hbox_two w (.cells #[.int .i64 (a : Nat), .int .i64 (b : Nat), .int .i64 (c : Nat)] 41) (.cells #[.int .i64 0, .int .i64 0] 27)) hw1) (below_one_h w1 (.cells #[.int .i64 (i : Nat), .int .i64 (j : Nat)] 62)); have P1 := World.alloc_heap_new w1 (.cells #[.int .i64 (i : Nat), .int .i64 (j : Nat)] 62); have B1 := Lib.hid (hstep B0.out (below_one_h w1 (.cells #[.int .i64 (i : Nat), .int .i64 (j : Nat)] 62))); go_loud (obtain ⟨a0, a1, a2⟩ := three_cells R1; obtain ⟨d0, d1⟩ := two_cells D1; obtain ⟨p0, p1⟩ := two_cells P1; have z0 := (hbox_cell D1 0).2; have z1 := (hbox_cell D1 1).2; have g1 := hbox_lt D1); have HR1 := Lib.hid R1; have HD1 := Lib.hid D1; have HP1 := Lib.hid P1; clear R1 D1 P1 hw1 B0)
      | (go_at_call 30; (with_reducible refine (HRS.out _).mono ?_); rintro e u9 ⟨rfl, hu9⟩; subst hu9)
      | (go_at_call 32; (with_reducible refine (HRT.out _).mono ?_); rintro e w2 ⟨rfl, hw2⟩; have B2 := Lib.hid (hstep B1.out hw2); have R2 := Lib.hid (hbox_next HR1.out hw2); have D2 := Lib.hid (hbox_next HD1.out hw2); have P2 := Lib.hid (hbox_next HP1.out hw2); clear hw2)
      | (go_at_call 31; (with_reducible refine (HRR.out _ (TK.out _ B2.out) (TL.out _ B2.out)).mono ?_); rintro e w3 ⟨rfl, hw3⟩; have B3 := Lib.hid (hstep B2.out hw3); have R3 := hbox_next R2.out hw3; have D3 := hbox_next D2.out hw3; have P3 := hbox_next P2.out hw3; go_loud (have LK := (TM.out _ B3.out).look_ok Tryz.underlying9 Tryz.underlying39 (any_zero _) K (Nat.le_trans HZ (Nat.le_trans hs (by decide))); obtain ⟨e0, e1, e2⟩ := three_cells R3; obtain ⟨f0, f1⟩ := two_cells D3; obtain ⟨h0, h1⟩ := two_cells P3; have y0 := (hbox_cell D3 0).2; have y1 := (hbox_cell D3 1).2; have g3 := hbox_lt D3; have HD3 := Lib.hid D3; clear R3 D3 P3); clear hw3))
    obtain ⟨o0, o1⟩ := pair_cells HD1.out (v0 := .int .i64 (a : Nat)) (v1 := .int .i64 3)
    refine bodyPost_ret (v := .agg #[.int .i64 (a : Nat), .int .i64 3]) (by simp [results, Tryz.results10, go_sem, o0, o1]) rfl ?_
    exact tk_end B1.out (Nat.le_succ _) (TM.out _ B1.out) hlt
  rw [if_neg (by decide)] at hr
  by_cases hsk : skipB K = true
  · rw [if_pos hsk] at hr
    rw [hsk] at HRS
    subst hr
    go_enter Tryz.func10, Tryz.ntmps10
    go_wp2_with (first
      | (go_at_call 28; (with_reducible refine (HRK.out _).mono ?_); rintro e w1 ⟨rfl, hw1⟩; have B0 := Lib.hid (hstep (below_two_n w (.cells #[.int .i64 (a : Nat), .int .i64 (b : Nat), .int .i64 (c : Nat)] 41) (.cells #[.int .i64 0, .int .i64 0] 27)) hw1); have R1 := hbox_next (hbox_next (hbox_one w (.cells #[.int .i64 (a : Nat), .int .i64 (b : Nat), .int .i64 (c : Nat)] 41) (.cells #[.int .i64 0, .int .i64 0] 27)) hw1) (below_one_h w1 (.cells #[.int .i64 (i : Nat), .int .i64 (j : Nat)] 62)); have D1 := hbox_next (hbox_next (hbox_two w (.cells #[.int .i64 (a : Nat), .int .i64 (b : Nat), .int .i64 (c : Nat)] 41) (.cells #[.int .i64 0, .int .i64 0] 27)) hw1) (below_one_h w1 (.cells #[.int .i64 (i : Nat), .int .i64 (j : Nat)] 62)); have P1 := World.alloc_heap_new w1 (.cells #[.int .i64 (i : Nat), .int .i64 (j : Nat)] 62); have B1 := Lib.hid (hstep B0.out (below_one_h w1 (.cells #[.int .i64 (i : Nat), .int .i64 (j : Nat)] 62))); go_loud (obtain ⟨a0, a1, a2⟩ := three_cells R1; obtain ⟨d0, d1⟩ := two_cells D1; obtain ⟨p0, p1⟩ := two_cells P1; have z0 := (hbox_cell D1 0).2; have z1 := (hbox_cell D1 1).2; have g1 := hbox_lt D1); have HR1 := Lib.hid R1; have HD1 := Lib.hid D1; have HP1 := Lib.hid P1; clear R1 D1 P1 hw1 B0)
      | (go_at_call 30; (with_reducible refine (HRS.out _).mono ?_); rintro e u9 ⟨rfl, hu9⟩; subst hu9)
      | (go_at_call 32; (with_reducible refine (HRT.out _).mono ?_); rintro e w2 ⟨rfl, hw2⟩; have B2 := Lib.hid (hstep B1.out hw2); have R2 := Lib.hid (hbox_next HR1.out hw2); have D2 := Lib.hid (hbox_next HD1.out hw2); have P2 := Lib.hid (hbox_next HP1.out hw2); clear hw2)
      | (go_at_call 31; (with_reducible refine (HRR.out _ (TK.out _ B2.out) (TL.out _ B2.out)).mono ?_); rintro e w3 ⟨rfl, hw3⟩; have B3 := Lib.hid (hstep B2.out hw3); have R3 := hbox_next R2.out hw3; have D3 := hbox_next D2.out hw3; have P3 := hbox_next P2.out hw3; go_loud (have LK := (TM.out _ B3.out).look_ok Tryz.underlying9 Tryz.underlying39 (any_zero _) K (Nat.le_trans HZ (Nat.le_trans hs (by decide))); obtain ⟨e0, e1, e2⟩ := three_cells R3; obtain ⟨f0, f1⟩ := two_cells D3; obtain ⟨h0, h1⟩ := two_cells P3; have y0 := (hbox_cell D3 0).2; have y1 := (hbox_cell D3 1).2; have g3 := hbox_lt D3; have HD3 := Lib.hid D3; clear R3 D3 P3); clear hw3))
    obtain ⟨o0, o1⟩ := pair_cells HD1.out (v0 := .int .i64 0) (v1 := .int .i64 0)
    refine bodyPost_ret (v := .agg #[.int .i64 0, .int .i64 0]) (by simp [results, Tryz.results10, go_sem, o0, o1]) rfl ?_
    exact tk_end B1.out (Nat.le_succ _) (TM.out _ B1.out) hlt
  rw [if_neg hsk] at hr
  rw [Bool.not_eq_true] at hsk
  rw [hsk] at HRS
  cases hc : (f K).isSome
  · rw [hc] at hr
    rcases he with rfl | rfl | rfl
    · rw [if_pos (Or.inr rfl)] at hr
      subst hr
      go_enter Tryz.func10, Tryz.ntmps10
      go_wp2_with (first
        | (go_at_call 28; (with_reducible refine (HRK.out _).mono ?_); rintro e w1 ⟨rfl, hw1⟩; have B0 := Lib.hid (hstep (below_two_n w (.cells #[.int .i64 (a : Nat), .int .i64 (b : Nat), .int .i64 (c : Nat)] 41) (.cells #[.int .i64 0, .int .i64 0] 27)) hw1); have R1 := hbox_next (hbox_next (hbox_one w (.cells #[.int .i64 (a : Nat), .int .i64 (b : Nat), .int .i64 (c : Nat)] 41) (.cells #[.int .i64 0, .int .i64 0] 27)) hw1) (below_one_h w1 (.cells #[.int .i64 (i : Nat), .int .i64 (j : Nat)] 62)); have D1 := hbox_next (hbox_next (hbox_two w (.cells #[.int .i64 (a : Nat), .int .i64 (b : Nat), .int .i64 (c : Nat)] 41) (.cells #[.int .i64 0, .int .i64 0] 27)) hw1) (below_one_h w1 (.cells #[.int .i64 (i : Nat), .int .i64 (j : Nat)] 62)); have P1 := World.alloc_heap_new w1 (.cells #[.int .i64 (i : Nat), .int .i64 (j : Nat)] 62); have B1 := Lib.hid (hstep B0.out (below_one_h w1 (.cells #[.int .i64 (i : Nat), .int .i64 (j : Nat)] 62))); go_loud (obtain ⟨a0, a1, a2⟩ := three_cells R1; obtain ⟨d0, d1⟩ := two_cells D1; obtain ⟨p0, p1⟩ := two_cells P1; have z0 := (hbox_cell D1 0).2; have z1 := (hbox_cell D1 1).2; have g1 := hbox_lt D1); have HR1 := Lib.hid R1; have HD1 := Lib.hid D1; have HP1 := Lib.hid P1; clear R1 D1 P1 hw1 B0)
        | (go_at_call 30; (with_reducible refine (HRS.out _).mono ?_); rintro e u9 ⟨rfl, hu9⟩; subst hu9)
        | (go_at_call 32; (with_reducible refine (HRT.out _).mono ?_); rintro e w2 ⟨rfl, hw2⟩; have B2 := Lib.hid (hstep B1.out hw2); have R2 := Lib.hid (hbox_next HR1.out hw2); have D2 := Lib.hid (hbox_next HD1.out hw2); have P2 := Lib.hid (hbox_next HP1.out hw2); clear hw2)
        | (go_at_call 31; (with_reducible refine (HRR.out _ (TK.out _ B2.out) (TL.out _ B2.out)).mono ?_); rintro e w3 ⟨rfl, hw3⟩; have B3 := Lib.hid (hstep B2.out hw3); have R3 := hbox_next R2.out hw3; have D3 := hbox_next D2.out hw3; have P3 := hbox_next P2.out hw3; go_loud (have LK := (TM.out _ B3.out).look_ok Tryz.underlying9 Tryz.underlying39 (any_zero _) K (Nat.le_trans HZ (Nat.le_trans hs (by decide))); obtain ⟨e0, e1, e2⟩ := three_cells R3; obtain ⟨f0, f1⟩ := two_cells D3; obtain ⟨h0, h1⟩ := two_cells P3; have y0 := (hbox_cell D3 0).2; have y1 := (hbox_cell D3 1).2; have g3 := hbox_lt D3; have HD3 := Lib.hid D3; clear R3 D3 P3); clear hw3))
      obtain ⟨o0, o1⟩ := pair_cells HD3.out (v0 := .int .i64 (a : Nat)) (v1 := .int .i64 140)
      refine bodyPost_ret (v := .agg #[.int .i64 (a : Nat), .int .i64 140]) (by simp [results, Tryz.results10, go_sem, o0, o1]) rfl ?_
      exact tk_end B3.out (Nat.le_succ _) (TM.out _ B3.out) hlt
    · rw [if_neg (by decide), if_pos (by decide)] at hr
      subst hr
      go_enter Tryz.func10, Tryz.ntmps10
      go_wp2_with (first
        | (go_at_call 28; (with_reducible refine (HRK.out _).mono ?_); rintro e w1 ⟨rfl, hw1⟩; have B0 := Lib.hid (hstep (below_two_n w (.cells #[.int .i64 (a : Nat), .int .i64 (b : Nat), .int .i64 (c : Nat)] 41) (.cells #[.int .i64 0, .int .i64 0] 27)) hw1); have R1 := hbox_next (hbox_next (hbox_one w (.cells #[.int .i64 (a : Nat), .int .i64 (b : Nat), .int .i64 (c : Nat)] 41) (.cells #[.int .i64 0, .int .i64 0] 27)) hw1) (below_one_h w1 (.cells #[.int .i64 (i : Nat), .int .i64 (j : Nat)] 62)); have D1 := hbox_next (hbox_next (hbox_two w (.cells #[.int .i64 (a : Nat), .int .i64 (b : Nat), .int .i64 (c : Nat)] 41) (.cells #[.int .i64 0, .int .i64 0] 27)) hw1) (below_one_h w1 (.cells #[.int .i64 (i : Nat), .int .i64 (j : Nat)] 62)); have P1 := World.alloc_heap_new w1 (.cells #[.int .i64 (i : Nat), .int .i64 (j : Nat)] 62); have B1 := Lib.hid (hstep B0.out (below_one_h w1 (.cells #[.int .i64 (i : Nat), .int .i64 (j : Nat)] 62))); go_loud (obtain ⟨a0, a1, a2⟩ := three_cells R1; obtain ⟨d0, d1⟩ := two_cells D1; obtain ⟨p0, p1⟩ := two_cells P1; have z0 := (hbox_cell D1 0).2; have z1 := (hbox_cell D1 1).2; have g1 := hbox_lt D1); have HR1 := Lib.hid R1; have HD1 := Lib.hid D1; have HP1 := Lib.hid P1; clear R1 D1 P1 hw1 B0)
        | (go_at_call 30; (with_reducible refine (HRS.out _).mono ?_); rintro e u9 ⟨rfl, hu9⟩; subst hu9)
        | (go_at_call 32; (with_reducible refine (HRT.out _).mono ?_); rintro e w2 ⟨rfl, hw2⟩; have B2 := Lib.hid (hstep B1.out hw2); have R2 := Lib.hid (hbox_next HR1.out hw2); have D2 := Lib.hid (hbox_next HD1.out hw2); have P2 := Lib.hid (hbox_next HP1.out hw2); clear hw2)
        | (go_at_call 31; (with_reducible refine (HRR.out _ (TK.out _ B2.out) (TL.out _ B2.out)).mono ?_); rintro e w3 ⟨rfl, hw3⟩; have B3 := Lib.hid (hstep B2.out hw3); have R3 := hbox_next R2.out hw3; have D3 := hbox_next D2.out hw3; have P3 := hbox_next P2.out hw3; go_loud (have LK := (TM.out _ B3.out).look_ok Tryz.underlying9 Tryz.underlying39 (any_zero _) K (Nat.le_trans HZ (Nat.le_trans hs (by decide))); obtain ⟨e0, e1, e2⟩ := three_cells R3; obtain ⟨f0, f1⟩ := two_cells D3; obtain ⟨h0, h1⟩ := two_cells P3; have y0 := (hbox_cell D3 0).2; have y1 := (hbox_cell D3 1).2; have g3 := hbox_lt D3; have HD3 := Lib.hid D3; clear R3 D3 P3); clear hw3))
      obtain ⟨o0, o1⟩ := pair_cells HD3.out (v0 := .int .i64 (i : Nat)) (v1 := .int .i64 141)
      refine bodyPost_ret (v := .agg #[.int .i64 (i : Nat), .int .i64 141]) (by simp [results, Tryz.results10, go_sem, o0, o1]) rfl ?_
      exact tk_end B3.out (Nat.le_succ _) (TM.out _ B3.out) hlt
    · rw [if_neg (by decide), if_neg (by decide)] at hr
      subst hr
      go_enter Tryz.func10, Tryz.ntmps10
      go_wp2_with (first
        | (go_at_call 28; (with_reducible refine (HRK.out _).mono ?_); rintro e w1 ⟨rfl, hw1⟩; have B0 := Lib.hid (hstep (below_two_n w (.cells #[.int .i64 (a : Nat), .int .i64 (b : Nat), .int .i64 (c : Nat)] 41) (.cells #[.int .i64 0, .int .i64 0] 27)) hw1); have R1 := hbox_next (hbox_next (hbox_one w (.cells #[.int .i64 (a : Nat), .int .i64 (b : Nat), .int .i64 (c : Nat)] 41) (.cells #[.int .i64 0, .int .i64 0] 27)) hw1) (below_one_h w1 (.cells #[.int .i64 (i : Nat), .int .i64 (j : Nat)] 62)); have D1 := hbox_next (hbox_next (hbox_two w (.cells #[.int .i64 (a : Nat), .int .i64 (b : Nat), .int .i64 (c : Nat)] 41) (.cells #[.int .i64 0, .int .i64 0] 27)) hw1) (below_one_h w1 (.cells #[.int .i64 (i : Nat), .int .i64 (j : Nat)] 62)); have P1 := World.alloc_heap_new w1 (.cells #[.int .i64 (i : Nat), .int .i64 (j : Nat)] 62); have B1 := Lib.hid (hstep B0.out (below_one_h w1 (.cells #[.int .i64 (i : Nat), .int .i64 (j : Nat)] 62))); go_loud (obtain ⟨a0, a1, a2⟩ := three_cells R1; obtain ⟨d0, d1⟩ := two_cells D1; obtain ⟨p0, p1⟩ := two_cells P1; have z0 := (hbox_cell D1 0).2; have z1 := (hbox_cell D1 1).2; have g1 := hbox_lt D1); have HR1 := Lib.hid R1; have HD1 := Lib.hid D1; have HP1 := Lib.hid P1; clear R1 D1 P1 hw1 B0)
        | (go_at_call 30; (with_reducible refine (HRS.out _).mono ?_); rintro e u9 ⟨rfl, hu9⟩; subst hu9)
        | (go_at_call 32; (with_reducible refine (HRT.out _).mono ?_); rintro e w2 ⟨rfl, hw2⟩; have B2 := Lib.hid (hstep B1.out hw2); have R2 := Lib.hid (hbox_next HR1.out hw2); have D2 := Lib.hid (hbox_next HD1.out hw2); have P2 := Lib.hid (hbox_next HP1.out hw2); clear hw2)
        | (go_at_call 31; (with_reducible refine (HRR.out _ (TK.out _ B2.out) (TL.out _ B2.out)).mono ?_); rintro e w3 ⟨rfl, hw3⟩; have B3 := Lib.hid (hstep B2.out hw3); have R3 := hbox_next R2.out hw3; have D3 := hbox_next D2.out hw3; have P3 := hbox_next P2.out hw3; go_loud (have LK := (TM.out _ B3.out).look_ok Tryz.underlying9 Tryz.underlying39 (any_zero _) K (Nat.le_trans HZ (Nat.le_trans hs (by decide))); obtain ⟨e0, e1, e2⟩ := three_cells R3; obtain ⟨f0, f1⟩ := two_cells D3; obtain ⟨h0, h1⟩ := two_cells P3; have y0 := (hbox_cell D3 0).2; have y1 := (hbox_cell D3 1).2; have g3 := hbox_lt D3; have HD3 := Lib.hid D3; clear R3 D3 P3); clear hw3)
        | (at_mapUpdate; refine wpList_mapUpdate_any _ rfl _ _ _ 39 rfl 9 20 Tryz.underlying9 Tryz.underlying39 B n f rfl (TM.out _ B3.out) (Nat.lt_of_le_of_lt hn (by decide)) _ _ rfl rfl (Nat.le_trans HZ (Nat.le_trans hs (by decide))) ?_; intro w4 hm4 hg4; have B4 := Lib.hid ((but_of_below B3.out (Nat.le_refl _)).trans (but_of_grown hg4)); have D4 := (hg4.block _ (hbox_lt HD3.out) (by intro e; cases e; omega)).trans HD3.out; go_loud (obtain ⟨k0, k1⟩ := two_cells D4; have x0 := (hbox_cell D4 0).2; have x1 := (hbox_cell D4 1).2; have g4 := hbox_lt D4); have HD4 := Lib.hid D4; have HM4 := Lib.hid hm4; clear D4 hm4 hg4))
      obtain ⟨o0, o1⟩ := pair_cells HD4.out (v0 := .int .i64 0) (v1 := .int .i64 0)
      refine bodyPost_ret (v := .agg #[.int .i64 0, .int .i64 0]) (by simp [results, Tryz.results10, go_sem, o0, o1]) rfl ?_
      exact tk_end2 B4.out (Nat.le_succ _) hlt HM4.out
  · rw [hc, if_pos (Or.inl rfl)] at hr
    subst hr
    rcases he with rfl | rfl | rfl
    all_goals
      go_enter Tryz.func10, Tryz.ntmps10
      go_wp2_with (first
        | (go_at_call 28; (with_reducible refine (HRK.out _).mono ?_); rintro e w1 ⟨rfl, hw1⟩; have B0 := Lib.hid (hstep (below_two_n w (.cells #[.int .i64 (a : Nat), .int .i64 (b : Nat), .int .i64 (c : Nat)] 41) (.cells #[.int .i64 0, .int .i64 0] 27)) hw1); have R1 := hbox_next (hbox_next (hbox_one w (.cells #[.int .i64 (a : Nat), .int .i64 (b : Nat), .int .i64 (c : Nat)] 41) (.cells #[.int .i64 0, .int .i64 0] 27)) hw1) (below_one_h w1 (.cells #[.int .i64 (i : Nat), .int .i64 (j : Nat)] 62)); have D1 := hbox_next (hbox_next (hbox_two w (.cells #[.int .i64 (a : Nat), .int .i64 (b : Nat), .int .i64 (c : Nat)] 41) (.cells #[.int .i64 0, .int .i64 0] 27)) hw1) (below_one_h w1 (.cells #[.int .i64 (i : Nat), .int .i64 (j : Nat)] 62)); have P1 := World.alloc_heap_new w1 (.cells #[.int .i64 (i : Nat), .int .i64 (j : Nat)] 62); have B1 := Lib.hid (hstep B0.out (below_one_h w1 (.cells #[.int .i64 (i : Nat), .int .i64 (j : Nat)] 62))); go_loud (obtain ⟨a0, a1, a2⟩ := three_cells R1; obtain ⟨d0, d1⟩ := two_cells D1; obtain ⟨p0, p1⟩ := two_cells P1; have z0 := (hbox_cell D1 0).2; have z1 := (hbox_cell D1 1).2; have g1 := hbox_lt D1); have HR1 := Lib.hid R1; have HD1 := Lib.hid D1; have HP1 := Lib.hid P1; clear R1 D1 P1 hw1 B0)
        | (go_at_call 30; (with_reducible refine (HRS.out _).mono ?_); rintro e u9 ⟨rfl, hu9⟩; subst hu9)
        | (go_at_call 32; (with_reducible refine (HRT.out _).mono ?_); rintro e w2 ⟨rfl, hw2⟩; have B2 := Lib.hid (hstep B1.out hw2); have R2 := Lib.hid (hbox_next HR1.out hw2); have D2 := Lib.hid (hbox_next HD1.out hw2); have P2 := Lib.hid (hbox_next HP1.out hw2); clear hw2)
        | (go_at_call 31; (with_reducible refine (HRR.out _ (TK.out _ B2.out) (TL.out _ B2.out)).mono ?_); rintro e w3 ⟨rfl, hw3⟩; have B3 := Lib.hid (hstep B2.out hw3); have R3 := hbox_next R2.out hw3; have D3 := hbox_next D2.out hw3; have P3 := hbox_next P2.out hw3; go_loud (have LK := (TM.out _ B3.out).look_ok Tryz.underlying9 Tryz.underlying39 (any_zero _) K (Nat.le_trans HZ (Nat.le_trans hs (by decide))); obtain ⟨e0, e1, e2⟩ := three_cells R3; obtain ⟨f0, f1⟩ := two_cells D3; obtain ⟨h0, h1⟩ := two_cells P3; have y0 := (hbox_cell D3 0).2; have y1 := (hbox_cell D3 1).2; have g3 := hbox_lt D3; have HD3 := Lib.hid D3; clear R3 D3 P3); clear hw3))
      obtain ⟨o0, o1⟩ := pair_cells HD3.out (v0 := .int .i64 (a : Nat)) (v1 := .int .i64 140)
      refine bodyPost_ret (v := .agg #[.int .i64 (a : Nat), .int .i64 140]) (by simp [results, Tryz.results10, go_sem, o0, o1]) rfl ?_
      exact tk_end B3.out (Nat.le_succ _) (TM.out _ B3.out) hlt
end Go.Proofs
/- Rows of a text as a slice holds them. No program. -/
namespace Go.Proofs
open Go.RowKit Go.Shelf Go.Hdr Go.Wds Go.Cur
theorem prow_cells3 {W : World} {base g n c : Nat} {e : TypeId} {L : List (Nat × Nat × Nat)} (h : W.ownsRow base e 3 (.slice (some ⟨g, 0, none⟩) n c) L.length (lineCells L)) {k a b d : Nat} (hk : L[k]? = some (a, b, d)) :
    W.cell? ⟨g, k * 3, none⟩ = some (.int .i64 (a : Nat)) ∧ W.cell? ⟨g, k * 3 + 1, none⟩ = some (.int .i64 (b : Nat)) ∧ W.cell? ⟨g, k * 3 + 2, none⟩ = some (.int .i64 (d : Nat)) := by
  have hc := World.ownsRow.cells h (g := g) rfl
  have hg : ∀ (L : List (Nat × Nat × Nat)) (k : Nat), L[k]? = some (a, b, d) → (lineCells L)[k * 3]? = some (.int .i64 (a : Nat)) ∧ (lineCells L)[k * 3 + 1]? = some (.int .i64 (b : Nat)) ∧ (lineCells L)[k * 3 + 2]? = some (.int .i64 (d : Nat)) := by
    intro L
    induction L with
    | nil => intro k hk; simp at hk
    | cons p L ih =>
      intro k hk
      cases k with
      | zero =>
        have e : p = (a, b, d) := by simpa using hk
        subst e
        exact ⟨rfl, rfl, rfl⟩
      | succ k =>
        have := ih k (by simpa using hk)
        have e : ∀ j, (lineCells (p :: L))[(k + 1) * 3 + j]? = (lineCells L)[k * 3 + j]? := fun j => by
          rw [show (k + 1) * 3 + j = (k * 3 + j) + 1 + 1 + 1 from by omega]; rfl
        exact ⟨(e 0).trans this.1, (e 1).trans this.2.1, (e 2).trans this.2.2⟩
  obtain ⟨h1, h2, h3⟩ := hg L k hk
  have g1 := hc _ _ h1
  have g2 := hc _ _ h2
  have g3 := hc _ _ h3
  rw [Addr.add_lit, Nat.zero_add] at g1 g2 g3
  exact ⟨g1, g2, g3⟩
theorem prows_at {W : World} {base n size : Nat} {e : TypeId} {v : Value} {xs : List Value} (h : W.ownsRow base e size v n xs) (hn : 0 < n) : ∃ g c, v = .slice (some ⟨g, 0, none⟩) n c ∧ g < W.heap.size := by
  rcases h.2 with ⟨rfl, h0⟩ | ⟨g, cap, cur, rfl, _, hg, _⟩
  · omega
  · exact ⟨g, cap, rfl, (Array.getElem?_eq_some_iff.1 hg).1⟩
theorem prow_cap {W : World} {base size n cap : Nat} {e : TypeId} {p : Addr} {xs : List Value} (h : W.ownsRow base e size (.slice (some p) n cap) n xs) : n ≤ cap ∧ cap ≤ maxLen := by
  rcases h.2 with ⟨h0, _⟩ | ⟨g, c, cur, hv, _, _, h1, h2, _⟩
  · cases h0
  · cases hv
    exact ⟨h1, h2⟩
/-- The first m of these rows, as a slice. -/
def HdRows (W : World) (v : Value) (m : Nat) (L : List (Nat × Nat × Nat)) (base : Nat) : Prop :=
  ∃ ao c, v = .slice ao m c ∧ (0 < m → ∃ g, ao = some ⟨g, 0, none⟩ ∧ base ≤ g ∧ g < W.heap.size ∧ ∀ k a b d, k < m → L[k]? = some (a, b, d) → W.cell? ⟨g, k * 3, none⟩ = some (.int .i64 (a : Nat)) ∧ W.cell? ⟨g, k * 3 + 1, none⟩ = some (.int .i64 (b : Nat)) ∧ W.cell? ⟨g, k * 3 + 2, none⟩ = some (.int .i64 (d : Nat)))
theorem HdRows.of {W : World} {base g n c m c' : Nat} {e : TypeId} {L : List (Nat × Nat × Nat)} (h : W.ownsRow base e 3 (.slice (some ⟨g, 0, none⟩) n c) L.length (lineCells L)) (hg : g < W.heap.size) : HdRows W (.slice (some ⟨g, 0, none⟩) m c') m L base :=
  ⟨_, _, rfl, fun _ => ⟨g, rfl, (h.lt g rfl).1, hg, fun _ _ _ _ _ hk => prow_cells3 h hk⟩⟩
end Go.Proofs
/- The landed head's split: the rows of the head, and the place behind them. Conditions: a text of at most a million bytes. -/
namespace Go.Hdr
open Go.Wds Go.AnyMap Go.Cur
/-- How many rows the head has, and where it ends. -/
def splitE (s : ByteArray) : List (Nat × Nat × Nat) → Nat × Nat
  | [] => (0, s.size)
  | r :: l => if endB (keyE s r.1 r.2.1).1 = true then (0, r.1) else ((splitE s l).1 + 1, (splitE s l).2)
theorem splitE_le (s : ByteArray) : ∀ L, (splitE s L).1 ≤ L.length := by
  intro L
  induction L with
  | nil => exact Nat.le_refl _
  | cons r l ih => unfold splitE; split; · exact Nat.zero_le _
                   · simp only [List.length_cons]; omega
theorem suffix_ends (K q : ByteArray) : Lib.hasSuffix K.data.toList q.data.toList = endsE K q := by
  have hl : ∀ B : ByteArray, B.data.toList.length = B.size := fun B => by simp
  have hx : (K.extract (K.size - q.size) K.size).data.toList = K.data.toList.drop (K.data.toList.length - q.data.toList.length) := by
    rw [hl, hl, ByteArray.data_extract, Array.toList_extract, List.extract_eq_take_drop, List.take_of_length_le]
    rw [List.length_drop, hl]
    omega
  rw [Bool.eq_iff_iff]
  unfold endsE
  rw [Bool.and_eq_true, decide_eq_true_iff, decide_eq_true_iff]
  unfold Lib.hasSuffix
  rw [List.isSuffixOf_iff_suffix]
  constructor
  · intro h
    refine ⟨by have := h.length_le; rwa [hl, hl] at this, ?_⟩
    apply ByteArray.ext
    apply Array.toList_inj.1
    rw [hx]
    exact (List.suffix_iff_eq_drop.1 h).symm
  · intro h
    rw [List.suffix_iff_eq_drop, ← hx, h.2]
end Go.Hdr
namespace Go.Proofs
open Go.RowKit Go.Shelf Go.Hdr Go.AnyMap Go.Wds Go.Cur
attribute [local go_sem] Oper.semAt_some
set_option linter.unusedVariables false
theorem below_drewN_h {B n : Nat} {a w : World} (h : Below B a w) : Below B a (w.drewN n) := ⟨h.os, h.tape, h.output, h.size, h.block⟩
set_option maxRecDepth 100000 in
set_option maxHeartbeats 8000000 in
theorem Tryz.hsplit_calls (s : ByteArray) (w : World) (hs : s.size ≤ 1000000) :
    Calls Tryz.prog 9 #[.string s] w fun e w' => ∃ v, e = .returned (.tuple #[v, .int .i64 ((splitE s (rowsOf s.data.toList)).2 : Nat)]) ∧ HdRows w' v (splitE s (rowsOf s.data.toList)).1 (rowsOf s.data.toList) w.heap.size ∧ Below w.heap.size w w' := by
  have RR := fun w => Tryz.Rows_calls s w (by omega)
  have hbd : ∀ r ∈ rowsOf s.data.toList, r.1 ≤ r.2.1 ∧ r.2.1 ≤ s.data.toList.length := rows_bd
  generalize hL : rowsOf s.data.toList = L at *
  have hsz : s.data.toList.length = s.size := by simp
  have hlen : L.length ≤ 1000001 := by rw [← hL]; exact Nat.le_trans (List.length_filter_le _ _) (Nat.le_trans (lines_len s) (by omega))
  rw [hsz] at hbd
  have RK := Lib.hid fun (a b : Nat) (h1 : a ≤ b) (h2 : b ≤ s.size) w => Tryz.Key_calls s (a : Int) (b : Int) _ _ _ _ w (by omega) (keyE_is s a b h1 h2)
  have RH := Lib.hid fun (K : ByteArray) (h : K.size ≤ s.size) w => Tryz.strings_HasSuffix K ⟨#[95, 83, 69, 67, 84, 73, 79, 78]⟩ w (by omega)
  have HBD := Lib.hid hbd
  clear hbd hL hsz
  go_enter Tryz.func9, Tryz.ntmps9
  go_wp2_with (go_at_call 27; (with_reducible refine (RR _).mono ?_); rintro e w1 ⟨v, rfl, hv, hw1⟩; obtain ⟨ao, cap, rfl⟩ := howns_slice hv)
  go_loopw [14] (fun i wr => ∃ k : Nat, k ≤ L.length ∧ i = .int .i64 (k : Int) ∧ Hid (splitE s L = (k + (splitE s (L.drop k)).1, (splitE s (L.drop k)).2)) ∧ Hid (Below w.heap.size w wr) ∧ Hid (wr.ownsRow w.heap.size 41 3 (.slice ao L.length cap) L.length (lineCells L))) (fun i _ => L.length - (intOf i).toNat)
  case atStart => exact ⟨0, Nat.zero_le _, rfl, Lib.hid (by simp), Lib.hid hw1, Lib.hid hv⟩
  case round =>
    clear hv hw1
    obtain ⟨k, hk, rfl, HS, HB, HR⟩ := hrel
    by_cases hlt : k < L.length
    · obtain ⟨⟨a, b, d⟩, hr⟩ : ∃ r, L[k]? = some r := ⟨L[k], List.getElem?_eq_getElem hlt⟩
      obtain ⟨g, c0, hgs, hgl⟩ := prows_at HR.out (Nat.lt_of_le_of_lt (Nat.zero_le _) hlt)
      cases hgs
      obtain ⟨hcap, hcap2⟩ := prow_cap HR.out
      obtain ⟨c1, c2, c3⟩ := prow_cells3 HR.out hr
      obtain ⟨hab, hbs⟩ := HBD.out _ (List.mem_of_getElem? hr)
      dsimp only at hab hbs
      have KK := RK.out a b hab hbs
      have HKs := keyE_size s a b
      have HST := Lib.hid (show splitE s (L.drop k) = if endB (keyE s a b).1 = true then (0, a) else ((splitE s (L.drop (k + 1))).1 + 1, (splitE s (L.drop (k + 1))).2) by
        rw [List.drop_eq_getElem_cons hlt, show L[k] = (a, b, d) from (List.getElem_eq_iff hlt).2 hr]; rfl)
      have HNL := Lib.hid hr
      clear hr hab hbs
      have hen : endB (keyE s a b).1 = (endsE (keyE s a b).1 hkSec || decide ((keyE s a b).1 = hkEof)) := rfl
      generalize keyE s a b = q at *
      obtain ⟨K, ⟨i, j⟩, t⟩ := q
      dsimp only at KK HKs HST hen
      unfold keyV at KK
      have HH := RH.out K HKs
      have e9 : ∀ x : ByteArray, Lib.hasSuffix x.data.toList [95, 83, 69, 67, 84, 73, 79, 78] = endsE x hkSec := fun x => suffix_ends x hkSec
      rw [e9] at HH
      clear e9
      have eqE := htext_beq K [69, 79, 70]
      rw [show decide (K = ⟨([69, 79, 70] : List UInt8).toArray⟩) = decide (K = hkEof) from rfl] at eqE
      generalize endsE K hkSec = x1 at *
      generalize decide (K = hkEof) = x2 at *
      have HKK := Lib.hid KK
      have HHH := Lib.hid HH
      clear KK HH
      have HBR := Lib.hid (below_one_h wr (.cells #[.int .i64 (a : Nat), .int .i64 (b : Nat), .int .i64 (d : Nat)] 41))
      cases x2
      · cases x1
        · have HST := Lib.hid (HST.out.trans (if_neg (by simp [hen])))
          clear hen
          go_wp2_with (first | (go_at_call 28; (with_reducible refine (HKK.out _).mono ?_); rintro e w2 ⟨rfl, hw2⟩; have B2 := Lib.hid (hstep (hstep (below_one_h wr (.cells #[.int .i64 (a : Nat), .int .i64 (b : Nat), .int .i64 (d : Nat)] 41)) hw2) (below_one_h w2 (.cells #[.int .i64 (i : Nat), .int .i64 (j : Nat)] 62))); clear hw2) | (go_at_call 29; (with_reducible refine (HHH.out _).mono ?_); rintro e u9 ⟨rfl, hu9⟩; subst hu9))
          go_roundw
          case rel =>
            have e := HST.out
            have h := HS.out
            rw [e] at h
            exact ⟨k + 1, by omega, by go_num, Lib.hid (h.trans (Prod.ext (by dsimp only; omega) rfl)), Lib.hid (hstep HB.out B2.out), Lib.hid (ownsRow_below HR.out B2.out (Nat.le_refl _))⟩
          case measure => simp [intOf]; omega
        · have HST := Lib.hid (HST.out.trans (if_pos (by rw [hen]; simp)))
          have HE := Lib.hid (show splitE s L = (k, a) by rw [HS.out, HST.out]; rfl)
          clear hen HS HST
          go_wp2_with (first | (go_at_call 28; (with_reducible refine (HKK.out _).mono ?_); rintro e w2 ⟨rfl, hw2⟩; have B2 := Lib.hid (hstep (hstep (below_one_h wr (.cells #[.int .i64 (a : Nat), .int .i64 (b : Nat), .int .i64 (d : Nat)] 41)) hw2) (below_one_h w2 (.cells #[.int .i64 (i : Nat), .int .i64 (j : Nat)] 62))); have R2 := hbox_next (hbox_next (World.alloc_heap_new wr (.cells #[.int .i64 (a : Nat), .int .i64 (b : Nat), .int .i64 (d : Nat)] 41)) hw2) (below_one_h w2 (.cells #[.int .i64 (i : Nat), .int .i64 (j : Nat)] 62)); go_loud (obtain ⟨r0, r1, r2⟩ := three_cells R2); clear hw2 R2) | (go_at_call 29; (with_reducible refine (HHH.out _).mono ?_); rintro e u9 ⟨rfl, hu9⟩; subst hu9))
          go_quiet (fail)
          go_wp2
          refine bodyPost_ret (v := .tuple #[.slice (some ⟨g, 0, none⟩) k cap, .int .i64 (a : Nat)]) (by simp [results, Tryz.results9, go_sem]) rfl ⟨_, by rw [HE.out], ?_, hstep HB.out (below_drewN_h B2.out)⟩
          rw [HE.out]
          exact HdRows.of (ownsRow_below HR.out (below_drewN_h B2.out) (Nat.le_refl _)) (Nat.lt_of_lt_of_le hgl B2.out.size)
      · have HST := Lib.hid (HST.out.trans (if_pos (by rw [hen]; simp)))
        have HE := Lib.hid (show splitE s L = (k, a) by rw [HS.out, HST.out]; rfl)
        clear hen HS HST
        go_wp2_with (first | (go_at_call 28; (with_reducible refine (HKK.out _).mono ?_); rintro e w2 ⟨rfl, hw2⟩; have B2 := Lib.hid (hstep (hstep (below_one_h wr (.cells #[.int .i64 (a : Nat), .int .i64 (b : Nat), .int .i64 (d : Nat)] 41)) hw2) (below_one_h w2 (.cells #[.int .i64 (i : Nat), .int .i64 (j : Nat)] 62))); have R2 := hbox_next (hbox_next (World.alloc_heap_new wr (.cells #[.int .i64 (a : Nat), .int .i64 (b : Nat), .int .i64 (d : Nat)] 41)) hw2) (below_one_h w2 (.cells #[.int .i64 (i : Nat), .int .i64 (j : Nat)] 62)); go_loud (obtain ⟨r0, r1, r2⟩ := three_cells R2); clear hw2 R2) | (go_at_call 29; (with_reducible refine (HHH.out _).mono ?_); rintro e u9 ⟨rfl, hu9⟩; subst hu9))
        go_quiet (fail)
        go_wp2
        refine bodyPost_ret (v := .tuple #[.slice (some ⟨g, 0, none⟩) k cap, .int .i64 (a : Nat)]) (by simp [results, Tryz.results9, go_sem]) rfl ⟨_, by rw [HE.out], ?_, hstep HB.out (below_drewN_h B2.out)⟩
        rw [HE.out]
        exact HdRows.of (ownsRow_below HR.out (below_drewN_h B2.out) (Nat.le_refl _)) (Nat.lt_of_lt_of_le hgl B2.out.size)
    · obtain rfl : k = L.length := by omega
      have HE := Lib.hid (show splitE s L = (L.length, s.size) by rw [HS.out, List.drop_length]; rfl)
      clear HS
      go_wp2
      refine bodyPost_ret (v := .tuple #[.slice ao L.length cap, .int .i64 (s.size : Nat)]) (by simp [results, Tryz.results9, go_sem]) rfl ⟨_, by rw [HE.out], ?_, HB.out⟩
      rw [HE.out]
      rcases Nat.eq_zero_or_pos L.length with h0 | h0
      · exact ⟨ao, cap, rfl, fun hp => absurd hp (by show ¬ 0 < L.length; omega)⟩
      · obtain ⟨g, c0, hgs, hgl⟩ := prows_at HR.out h0
        cases hgs
        exact HdRows.of HR.out hgl
#print axioms Tryz.hsplit_calls
end Go.Proofs
/- What take does to a map, held against the document's own run of the rows; no walk. -/
namespace Go.Hdr
open Go Go.Proofs Go.AnyMap Go.Wds Go.Cur
theorem put_zero (h : Hd) (v : ByteArray) {i : Nat} (hi : i ≤ 5) (hz : hfld i h = hfld i hd0) : (putE h (i : Int) v).2 = (putE hd0 (i : Int) v).2 ∧ hany i (putE h (i : Int) v).1 = hany i (putE hd0 (i : Int) v).1 := by
  rcases (show i = 0 ∨ i = 1 ∨ i = 2 ∨ i = 3 ∨ i = 4 ∨ i = 5 by omega) with rfl | rfl | rfl | rfl | rfl | rfl
  · exact ⟨rfl, rfl⟩
  · have e : h.kind = 0 := by simpa [hfld, hd0] using hz
    have e2 : putE h ((1 : Nat) : Int) v = ({ h with kind := if v = hkCvrp then 2 else if v = hkTsp then 1 else h.kind }, decide ((0 : Int) < if v = hkCvrp then 2 else if v = hkTsp then 1 else h.kind)) := rfl
    have e3 : putE hd0 ((1 : Nat) : Int) v = ({ hd0 with kind := if v = hkCvrp then 2 else if v = hkTsp then 1 else 0 }, decide ((0 : Int) < if v = hkCvrp then 2 else if v = hkTsp then 1 else 0)) := rfl
    rw [e2, e3, e]
    exact ⟨rfl, rfl⟩
  all_goals exact ⟨rfl, rfl⟩
theorem read_140 (K v : ByteArray) : (readE K v).2 = 140 ↔ hplaceE K < 0 := by
  unfold readE
  split
  · rename_i h; exact ⟨fun _ => h, fun _ => rfl⟩
  · rename_i h
    split
    · exact ⟨fun e => absurd e (by decide), fun e => absurd e h⟩
    · exact ⟨fun e => absurd (show (0 : Int) = 140 from e) (by decide), fun e => absurd e h⟩
theorem take_row {f : ByteArray → Option Value} {p : Pr} (h : MapPr f p) (s : ByteArray) (a b d : Nat) (hend : endB (keyE s a b).1 = false)
    {T : (Nat × Int) × (ByteArray → Option Value)} (hT : takeR a (keyE s a b).2.1.1 f (keyE s a b).1 (keyE s a b).2.2 (readE (keyE s a b).1 (textI s (keyE s a b).2.1.1 (keyE s a b).2.1.2)) = T) :
    (∃ x c, rowE s p (a, b, d) = .bad x c ∧ T.1 = (x, c) ∧ c ≠ 0) ∨ (∃ p', rowE s p (a, b, d) = .go p' ∧ T.1 = (0, 0) ∧ MapPr T.2 p') := by
  subst hT
  unfold rowE takeR
  dsimp only
  generalize keyE s a b = q at *
  obtain ⟨K, ⟨i, j⟩, t⟩ := q
  dsimp only at hend ⊢
  rw [if_neg (by rw [hend]; decide)]
  generalize textI s (i : Int) (j : Int) = v
  cases t
  · left
    exact ⟨a, 3, rfl, rfl, by decide⟩
  have htf : ¬ ((true : Bool) = false) := by decide
  rw [if_neg htf, if_neg htf]
  by_cases hs : skipB K = true
  · right
    rw [if_pos hs, if_pos hs]
    exact ⟨p, rfl, rfl, h⟩
  rw [if_neg hs, if_neg hs]
  have hk := h.keys K
  have h140 := read_140 K v
  by_cases hc : hplaceE K < 0 ∨ p.c (hplaceE K).toNat = true
  · left
    rw [if_pos hc, if_pos (by
      rcases hc with hc | hc
      · exact .inr (h140.2 hc)
      · by_cases hp : hplaceE K < 0
        · exact .inr (h140.2 hp)
        · exact .inl (by rw [hk, hc, decide_eq_true (by omega)]; rfl))]
    exact ⟨a, 140, rfl, rfl, by decide⟩
  have hp : 0 ≤ hplaceE K := by omega
  have hc0 : p.c (hplaceE K).toNat = false := by
    cases hx : p.c (hplaceE K).toNat with
    | false => rfl
    | true => exact absurd (.inr hx) hc
  have ht : ¬ ((f K).isSome = true ∨ (readE K v).2 = 140) := by
    rintro (h1 | h1)
    · rw [hk, hc0, Bool.and_false] at h1; cases h1
    · exact hc (.inl (h140.1 h1))
  rw [if_neg hc, if_neg ht]
  obtain ⟨h5, hkk⟩ := place_key hp
  obtain ⟨n, hn⟩ : ∃ n : Nat, hplaceE K = n := ⟨(hplaceE K).toNat, by omega⟩
  have hnn : (hplaceE K).toNat = n := by omega
  obtain ⟨z1, z2⟩ := put_zero p.h v h5 (h.zero _ h5 hc0)
  rw [hnn, ← hn] at z1 z2
  have hr : readE K v = if (putE hd0 (hplaceE K) v).2 = false then (.nilIface, 141) else (hany (hplaceE K).toNat (putE hd0 (hplaceE K) v).1, 0) := by
    unfold readE; rw [if_neg (by omega)]
  rw [hr, z1]
  by_cases hb : (putE hd0 (hplaceE K) v).2 = false
  · left
    rw [if_pos hb, if_pos hb, if_pos (show ((Value.nilIface, (141 : Int)).2 ≠ 0) by decide)]
    exact ⟨i, 141, rfl, rfl, by decide⟩
  · right
    rw [if_neg hb, if_neg hb, if_neg (show ¬ ((hany (hplaceE K).toNat (putE hd0 (hplaceE K) v).1, (0 : Int)).2 ≠ 0) from fun e => e rfl)]
    refine ⟨_, rfl, rfl, ?_⟩
    rw [hnn, ← z2, ← hnn]
    exact h.step hp
theorem row_stop {s : ByteArray} {p : Pr} {a b d : Nat} (h : endB (keyE s a b).1 = true) : rowE s p (a, b, d) = .stop := by
  unfold rowE
  dsimp only
  rw [if_pos h]
theorem split_zero {s : ByteArray} {p : Pr} {L : List (Nat × Nat × Nat)} {e : Nat} (h : splitE s L = (0, e)) : rowsE14 s L p = .inr (p, e) := by
  cases L with
  | nil => cases h; rfl
  | cons r l =>
    obtain ⟨a, b, d⟩ := r
    unfold splitE at h
    split at h
    · rename_i hx
      cases h
      unfold rowsE14
      rw [row_stop hx]
    · cases h
theorem split_succ {s : ByteArray} {k m e : Nat} {L : List (Nat × Nat × Nat)} (h : splitE s (L.drop k) = (m + 1, e)) {a b d : Nat} (hr : L[k]? = some (a, b, d)) : endB (keyE s a b).1 = false ∧ splitE s (L.drop (k + 1)) = (m, e) := by
  obtain ⟨hlt, he⟩ := List.getElem?_eq_some_iff.1 hr
  rw [List.drop_eq_getElem_cons hlt, he] at h
  unfold splitE at h
  split at h
  · cases h
  · rename_i hx
    refine ⟨by simpa using hx, ?_⟩
    have h1 := congrArg Prod.fst h
    have h2 := congrArg Prod.snd h
    dsimp only at h1 h2
    exact Prod.ext (by dsimp only; omega) h2
theorem hrows_step {s : ByteArray} {k : Nat} {L : List (Nat × Nat × Nat)} {a b d : Nat} (hr : L[k]? = some (a, b, d)) (p : Pr) : rowsE14 s (L.drop k) p = match rowE s p (a, b, d) with
    | .stop => .inr (p, a)
    | .bad x c => .inl (x, c)
    | .go q => rowsE14 s (L.drop (k + 1)) q := by
  obtain ⟨hlt, he⟩ := List.getElem?_eq_some_iff.1 hr
  rw [List.drop_eq_getElem_cons hlt, he, rowsE14_cons]
  all_goals (cases rowE s p (a, b, d) <;> rfl)
theorem parse_bad {s : ByteArray} {x : Nat} {c : Int} (h : rowsE14 s (rowsOf s.data.toList) pr0 = .inl (x, c)) : parseE s = (hd0, 0, x, c) := by unfold parseE; rw [h]
theorem parse_end {s : ByteArray} {p : Pr} {e : Nat} (h : rowsE14 s (rowsOf s.data.toList) pr0 = .inr (p, e)) : parseE s = if lackE p = true then (hd0, 0, e, 142) else (p.h, e, 0, 0) := by unfold parseE; rw [h]
#print axioms take_row
end Go.Hdr
